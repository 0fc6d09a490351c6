/-
  THE DOCUMENT's Two WITH ITS LOG.
-/
/-
  WHAT wire's Digest RETURNS.
-/
/-
  WHAT digest's Two AND merkle's node RETURN, where there is no log.
-/
/-
  BYTES STORED INTO THE MIDDLE OF A BLOCK OF BYTES; a part of an array's value.
-/
/-
  A PART OF A ROW LOADED INSIDE A REGION THAT DRAWS ITS ORDER, as a step of the quiet walk. Over whatever program.
-/
/-
  LISTS OF DIGESTS IN MEMORY; WHAT merkle's standing RETURNS.
-/
/-
  LISTS OF DIGESTS BESIDE A LOG.
-/
/-
  KEYS UNDER ONE ROOT, PLAIN: a leaf's path climbs to the root.
-/
/-
  THE DIGEST OF TWO DIGESTS, OF ANY DOMAIN, where there is no log.
-/
/-
  == AND != OF TWO DIGESTS.
-/
/-
  WHAT merkle's Proves RETURNS.
-/
/-
  A NEW LIST OF DIGESTS, ALL NOUGHTS.
-/
/-
  WHAT merkle's above RETURNS: the nodes of each two neighbours.
-/
/-
  WHAT keys' above RETURNS, where there is no log.
-/
/-
  WHAT lamport's Secret, Public AND Bit RETURN, where there is no log.
-/
/-
  WHAT lamport's Bit RETURNS.
-/
/-
  WHAT THE WORD OF ALL PUBLICS IS, where there is no log.
-/
/-
  WHAT lamport's Word RETURNS, where there is no log.
-/
import Derived.Test.YtonmccmeljeopaaDoorJ3
import Derived.Test.YtonmccmeljeopaaDoorJ0
import Derived.Deep.MidRow
import Derived.Test.YtonmccmeljeopaaDoorJ1
import Derived.Test.YtonmccmeljeopaaDoorJ2
import Derived.Laws.StructEq
namespace Go.Proofs.YtonmccmeljeopaaDoor
open Go.RowKit
set_option linter.unusedSimpArgs false
set_option linter.unusedVariables false

/-- A node's input. -/
def pIn (a b : List UInt8) : List UInt8 := pInput 6 [a, b]
set_option maxHeartbeats 2000000 in
set_option maxRecDepth 100000 in
theorem rtwoQ_calls (dom : Nat) (hdom : dom < 256) (a b : List UInt8) (ha : a.length = 32) (hb : b.length = 32) (L : Nat) (S : Nat → Prop) (ins : List (List UInt8)) (hin : ins.length < 1099511627776) (w : World) (hL : RLogAt w L S ins) :
    Calls Tryd.prog 37 #[.pointer (some ⟨L, 0, none⟩), .int .u8 (dom : Int), .agg (bc a), .agg (bc b)] w fun e w' => e = .returned (.agg (bc (pOf dom [a, b]))) ∧ RStep L S (rnoted (pInput dom [a, b]) ins) w w' := by
  have co := fun g w hs hl => rofQ_calls dom hdom [a, b] (by simp; omega) (by simp) (some ⟨g, 0, none⟩) 2 L S ins hin w hs hl
  have HL := hide hL
  have HOLD := hide hL.old
  have hia := digInfo a ha
  have hib := digInfo b hb
  have hi1 := digInfo (pOf dom [a, b]) (pOf_length dom [a, b])
  have hz1 := zeroSize (pOf dom [a, b]) (pOf_length dom [a, b])
  have ho1 := bc_oneCell (pOf dom [a, b])
  have ca := fun w => rbytes_calls a ha w
  have cb := fun w => rbytes_calls b hb w
  generalize pOf dom [a, b] = D at *
  obtain ⟨I, hI⟩ : ∃ I, pInput dom [a, b] = I := ⟨_, rfl⟩
  rw [hI] at co ⊢
  clear hI hL
  have A3 := hide (al3 w (.cells (bc a) 23) (.cells (bc b) 23) (.cells (bc (List.replicate 32 0)) 23))
  have B3 := hide (bel3 w (.cells (bc a) 23) (.cells (bc b) 23) (.cells (bc (List.replicate 32 0)) 23))
  have S3 : Hid ((((w.alloc (.cells (bc a) 23)).alloc (.cells (bc b) 23)).alloc (.cells (bc (List.replicate 32 0)) 23)).heap.size = w.heap.size + 1 + 1 + 1) := hide (by simp)
  generalize hX : ((w.alloc (.cells (bc a) 23)).alloc (.cells (bc b) 23)).alloc (.cells (bc (List.replicate 32 0)) 23) = X at *
  have HX := hide hX
  have CO := hide co
  have kA : Hid (∀ dd os, Calls Tryd.prog 33 #[.agg (bc a)] (Sort.grow (redrawn X.drew dd) os) fun e w'' => e = .returned (.string (str a)) ∧ ∃ p : Regrown, w'' = Sort.grow (redrawn X.drew p.d) p.os) := fun dd os => Calls.regrown_of (ca _)
  have kB : Hid (∀ dd os, Calls Tryd.prog 33 #[.agg (bc b)] (Sort.grow (redrawn X.drew dd) os) fun e w'' => e = .returned (.string (str b)) ∧ ∃ p : Regrown, w'' = Sort.grow (redrawn X.drew p.d) p.os) := fun dd os => Calls.regrown_of (cb _)
  have dX : Below X.heap.size X X.drew := ⟨rfl, rfl, rfl, Nat.le_refl _, fun _ _ => rfl⟩
  have s3 := unhide S3
  have R0 : Hid (∀ w', (∃ p : Regrown, w' = Sort.grow (redrawn X.drew p.d) p.os) → w'.heap[w.heap.size]? = some (.cells (bc a) 23 (0, 0))) := fun w' ⟨p, hp⟩ => by
    rw [hp]; exact Below.at (below_regrown X.drew p.d p.os) (by show _ < X.heap.size; omega) (unhide A3).1
  have R1 : Hid (∀ w', (∃ p : Regrown, w' = Sort.grow (redrawn X.drew p.d) p.os) → w'.heap[w.heap.size + 1]? = some (.cells (bc b) 23 (0, 0))) := fun w' ⟨p, hp⟩ => by
    rw [hp]; exact Below.at (below_regrown X.drew p.d p.os) (by show _ < X.heap.size; omega) (unhide A3).2.1
  clear co ca cb s3 dX hX
  go_enter Tryd.func37, Tryd.ntmps37
  go_wp2_with fail
  change Code.wp _ _ _ _ (((w.alloc (.cells (bc a) 23)).alloc (.cells (bc b) 23)).alloc (.cells (bc (List.replicate 32 0)) 23))
  rw [unhide HX]
  refine wp_region_any mixed ?_
  change wpAny _ _ _ _ _ _ _ X.drew
  refine wpAny_take (i := 0) rfl (by kernel_rfl) (by kernel_rfl) (by kernel_rfl) (fun _ _ _ h => h) (.inl ⟨rfl, fun _ => rfl⟩) ?_
  refine wpAny_take (i := 1) rfl (by kernel_rfl) (by kernel_rfl) (by kernel_rfl) (fun _ _ _ h => h) (.inl ⟨rfl, fun _ => rfl⟩) ?_
  refine wpAny_below_head 2 6 (by kernel_rfl) ?_
  simp only [List.take_succ_cons, List.take_zero, List.drop_succ_cons, List.drop_zero]
  refine wpQuiet_load_row rfl 23 (.tmp 6) rfl w.heap.size rfl 23 _ (0, 0) _ (unhide R0) Tryd.underlying23 rfl hia ?_
  quiet_step (exact unhide kA _ _)
  refine wpQuiet_load_row rfl 23 (.tmp 7) rfl (w.heap.size + 1) rfl 23 _ (0, 0) _ (unhide R1) Tryd.underlying23 rfl hib ?_
  quiet_step (exact unhide kB _ _)
  refine wpQuiet_nil ?_
  intro w2 hb2
  have hb2' : Below X.heap.size X w2 := ⟨hb2.os, hb2.tape, hb2.output, hb2.size, hb2.block⟩
  have s3 := unhide S3
  have q2 := Below.at hb2' (by omega) (unhide A3).2.2
  have hbw : Below w.heap.size w w2 := (unhide B3).trans (hb2'.mono (by omega))
  have z2 : w.heap.size + 1 + 1 < w2.heap.size := by have := hb2'.size; omega
  have HB := hide hbw
  have Q2 := hide q2
  have Z2 := hide z2
  clear hb2 hb2' s3 q2 hbw z2
  refine wpAny_rest 6 (by kernel_rfl) ?_
  simp only [List.drop_succ_cons, List.drop_zero]
  go_wp2_with fail
  have hb3 : Below w.heap.size w (w2.alloc (.cells #[.string (str a), .string (str b)] 9)) := (unhide HB).alloc (by have := unhide Z2; omega) _
  have HB3 := hide hb3
  refine (unhide CO _ _ (strsAt_rpair w2 a b _) ((unhide HL).below hb3)).mono ?_
  rintro e w3 ⟨rfl, hst⟩
  have HST := hide hst
  obtain ⟨S', k1, k2, k3⟩ := hst
  have q3 := (k2.block (w.heap.size + 1 + 1) (by rw [World.size_alloc]; have := unhide Z2; omega) (fun h => by have := unhide HOLD _ h; omega)).trans ((Below.heap_alloc w2 (.cells #[.string (str a), .string (str b)] 9) _ (unhide Z2)).trans (unhide Q2))
  have Q3 := hide q3
  clear q3 hb3 k1 k2 k3
  go_wp2_with (refine wpList_store_row rfl 23 (.tmp 8) (.tmp 16) rfl (w.heap.size + 1 + 1) _ rfl rfl 23 _ (unhide Q3) hi1 hz1 ho1 ?_)
  exact bodyPost_ret (results_cell_row rfl _ _ (w.heap.size + 1 + 1) _ _ _ _ rfl (setRow_heap _ _ _ _ _ _ (unhide Q3)) Tryd.underlying23 rfl hi1) rfl ⟨rfl, setRow_step (unhide HB3) (unhide HST) (unhide HOLD) (w.heap.size + 1 + 1) (by omega) (by rw [World.size_alloc]; have := unhide Z2; omega) _⟩
end Go.Proofs.YtonmccmeljeopaaDoor

namespace Go.Proofs.YtonmccmeljeopaaDoor
open Go.RowKit
set_option linter.unusedSimpArgs false
set_option linter.unusedVariables false

set_option maxRecDepth 100000 in
theorem wdigest_calls (d : List UInt8) (hd : d.length = 32) (w : World) :
    Calls Tryd.prog 42 #[.agg (bc d)] w fun e w' => e = .returned (.string (str d)) ∧ Below w.heap.size w w' := by
  have hsz : (bc d).size = 32 := by rw [bc_size, hd]
  have q := al1 w (.cells (bc d) 23)
  have hcv := run_convert_bytes_back (P := Tryd.prog) (w.alloc (.cells (bc d) 23)) 71 9 5 ⟨w.heap.size, 0, none⟩ 32 d Tryd.underlying71 Tryd.underlying5 Tryd.underlying9 (fun j hj => by
    have hadd : (⟨w.heap.size, 0, none⟩ : Addr).add j = ⟨w.heap.size, j, none⟩ := by unfold Addr.add; split <;> simp_all
    rw [hadd, cell_of_row _ _ _ _ _ _ q, bc_at _ _ hj]; simp [hj])
  rw [hd] at hcv
  clear q hsz
  go_enter Tryd.func42, Tryd.ntmps42
  go_wp2
  go_ret
  exact ⟨rfl, (Below.refl _ _).alloc (Nat.le_refl _) _⟩
end Go.Proofs.YtonmccmeljeopaaDoor

namespace Go.Proofs.YtonmccmeljeopaaDoor
open Go Go.RowKit
set_option linter.unusedSimpArgs false
set_option linter.unusedVariables false

/-- The digest of two digests, of the domain Node. -/
def pNode (a b : List UInt8) : List UInt8 := pOf 6 [a, b]
theorem pNode_length (a b : List UInt8) : (pNode a b).length = 32 := pOf_length _ _
theorem strsAt_two (w : World) (l0 l1 : List UInt8) (t : TypeId) : StrsAt (w.alloc (.cells #[.string (str l0), .string (str l1)] t)) (some ⟨w.heap.size, 0, none⟩) [l0, l1] := by
  refine .inr ⟨w.heap.size, 0, rfl, by simp, fun j hj => ?_⟩
  match j, hj with
  | 0, _ => go_simp
  | 1, _ => go_simp
  | j + 2, hj => simp at hj; omega
set_option maxHeartbeats 2000000 in
set_option maxRecDepth 100000 in
theorem two_calls (a b : List UInt8) (ha : a.length = 32) (hb : b.length = 32) (w : World) (tabs : Tabs w) :
    Calls Tryd.prog 39 #[.pointer none, .int .u8 6, .agg (bc a), .agg (bc b)] w fun e w' => e = .returned (.agg (bc (pNode a b))) ∧ Below w.heap.size w w' := by
  have co := fun g w hs tabs => ofNil_calls 6 (by decide) [a, b] (by simp; omega) (by simp) (some ⟨g, 0, none⟩) 2 w hs tabs
  have hia := digInfo a ha
  have hib := digInfo b hb
  have hi1 := digInfo (pNode a b) (pNode_length a b)
  have hz1 := zeroSize (pNode a b) (pNode_length a b)
  have ho1 := bc_oneCell (pNode a b)
  have ca := fun w => wdigest_calls a ha w
  have cb := fun w => wdigest_calls b hb w
  have e2 : pOf 6 [a, b] = pNode a b := rfl
  rw [e2] at co
  generalize pNode a b = D at *
  have A3 := hide (al3 w (.cells (bc a) 23) (.cells (bc b) 23) (.cells (bc (List.replicate 32 0)) 23))
  have B3 := hide (bel3 w (.cells (bc a) 23) (.cells (bc b) 23) (.cells (bc (List.replicate 32 0)) 23))
  have S3 : Hid ((((w.alloc (.cells (bc a) 23)).alloc (.cells (bc b) 23)).alloc (.cells (bc (List.replicate 32 0)) 23)).heap.size = w.heap.size + 1 + 1 + 1) := hide (by simp)
  generalize hX : ((w.alloc (.cells (bc a) 23)).alloc (.cells (bc b) 23)).alloc (.cells (bc (List.replicate 32 0)) 23) = X at *
  have HX := hide hX
  have CO := hide co
  have HT := hide tabs
  have kA : Hid (∀ dd os, Calls Tryd.prog 42 #[.agg (bc a)] (Sort.grow (redrawn X.drew dd) os) fun e w'' => e = .returned (.string (str a)) ∧ ∃ p : Regrown, w'' = Sort.grow (redrawn X.drew p.d) p.os) := fun dd os => Calls.regrown_of (ca _)
  have kB : Hid (∀ dd os, Calls Tryd.prog 42 #[.agg (bc b)] (Sort.grow (redrawn X.drew dd) os) fun e w'' => e = .returned (.string (str b)) ∧ ∃ p : Regrown, w'' = Sort.grow (redrawn X.drew p.d) p.os) := fun dd os => Calls.regrown_of (cb _)
  have dX : Below X.heap.size X X.drew := ⟨rfl, rfl, rfl, Nat.le_refl _, fun _ _ => rfl⟩
  have s3 := unhide S3
  have R0 : Hid (∀ w', (∃ p : Regrown, w' = Sort.grow (redrawn X.drew p.d) p.os) → w'.heap[w.heap.size]? = some (.cells (bc a) 23 (0, 0))) := fun w' ⟨p, hp⟩ => by
    rw [hp]; exact Below.at (below_regrown X.drew p.d p.os) (by show _ < X.heap.size; omega) (unhide A3).1
  have R1 : Hid (∀ w', (∃ p : Regrown, w' = Sort.grow (redrawn X.drew p.d) p.os) → w'.heap[w.heap.size + 1]? = some (.cells (bc b) 23 (0, 0))) := fun w' ⟨p, hp⟩ => by
    rw [hp]; exact Below.at (below_regrown X.drew p.d p.os) (by show _ < X.heap.size; omega) (unhide A3).2.1
  clear co ca cb tabs e2 s3 dX hX
  go_enter Tryd.func39, Tryd.ntmps39
  go_wp2_with fail
  change Code.wp _ _ _ _ (((w.alloc (.cells (bc a) 23)).alloc (.cells (bc b) 23)).alloc (.cells (bc (List.replicate 32 0)) 23))
  rw [unhide HX]
  refine wp_region_any mixed ?_
  change wpAny _ _ _ _ _ _ _ X.drew
  refine wpAny_take (i := 0) rfl (by kernel_rfl) (by kernel_rfl) (by kernel_rfl) (fun _ _ _ h => h) (.inl ⟨rfl, fun _ => rfl⟩) ?_
  refine wpAny_take (i := 1) rfl (by kernel_rfl) (by kernel_rfl) (by kernel_rfl) (fun _ _ _ h => h) (.inl ⟨rfl, fun _ => rfl⟩) ?_
  refine wpAny_below_head 2 6 (by kernel_rfl) ?_
  simp only [List.take_succ_cons, List.take_zero, List.drop_succ_cons, List.drop_zero]
  refine wpQuiet_load_row rfl 23 (.tmp 6) rfl w.heap.size rfl 23 _ (0, 0) _ (unhide R0) Tryd.underlying23 rfl hia ?_
  quiet_step (exact unhide kA _ _)
  refine wpQuiet_load_row rfl 23 (.tmp 7) rfl (w.heap.size + 1) rfl 23 _ (0, 0) _ (unhide R1) Tryd.underlying23 rfl hib ?_
  quiet_step (exact unhide kB _ _)
  refine wpQuiet_nil ?_
  intro w2 hb2
  have hb2' : Below X.heap.size X w2 := ⟨hb2.os, hb2.tape, hb2.output, hb2.size, hb2.block⟩
  have s3 := unhide S3
  have q2 := Below.at hb2' (by omega) (unhide A3).2.2
  have hbw : Below w.heap.size w w2 := (unhide B3).trans (hb2'.mono (by omega))
  have z2 : w.heap.size + 1 + 1 < w2.heap.size := by have := hb2'.size; omega
  have HB := hide hbw
  have Q2 := hide q2
  have Z2 := hide z2
  clear hb2 hb2' s3 q2 hbw z2
  refine wpAny_rest 6 (by kernel_rfl) ?_
  simp only [List.drop_succ_cons, List.drop_zero]
  go_wp2_with fail
  refine (unhide CO _ _ (strsAt_two w2 a b _) (((unhide HT).below (unhide HB) (Nat.le_refl _)).below' ((Below.refl _ w2).alloc (Nat.le_refl _) _))).mono ?_
  rintro e w3 ⟨rfl, b3⟩
  have q3 := Below.at b3 (by have := unhide Z2; simp; omega) ((Below.heap_alloc w2 (.cells #[.string (str a), .string (str b)] 9) _ (unhide Z2)).trans (unhide Q2))
  have hb3 : Below w.heap.size w w3 := ((unhide HB).alloc (by have := unhide Z2; omega) _).trans (b3.mono (by have := unhide Z2; simp; omega))
  have Q3 := hide q3
  have HB3 := hide hb3
  clear b3 q3 hb3
  go_wp2_with (refine wpList_store_row rfl 23 (.tmp 8) (.tmp 16) rfl (w.heap.size + 1 + 1) _ rfl rfl 23 _ (unhide Q3) hi1 hz1 ho1 ?_)
  exact bodyPost_ret (results_cell_row rfl _ _ (w.heap.size + 1 + 1) _ _ _ _ rfl (setRow_heap _ _ _ _ _ _ (unhide Q3)) Tryd.underlying23 rfl hi1) rfl ⟨rfl, below_setRow (unhide HB3) (by omega) _⟩
/-- The nought of a level. -/
def pNought : Nat → List UInt8
  | 0 => List.replicate 32 0
  | k + 1 => pNode (pNought k) (pNought k)
theorem pNought_length : ∀ k, (pNought k).length = 32
  | 0 => rfl
  | k + 1 => pNode_length _ _
end Go.Proofs.YtonmccmeljeopaaDoor

namespace Go.Proofs.YtonmccmeljeopaaDoor
open Go.RowKit
set_option linter.unusedSimpArgs false
set_option linter.unusedVariables false

/-- A list with another one written over it from a place on. -/
def putAt (L : List UInt8) (o : Nat) (D : List UInt8) : List UInt8 := L.take o ++ D ++ L.drop (o + D.length)
theorem putAt_length (L : List UInt8) (o : Nat) (D : List UInt8) (h : o + D.length ≤ L.length) : (putAt L o D).length = L.length := by
  unfold putAt; simp; omega
theorem putAt_zeros (A D : List UInt8) (n o : Nat) (ho : o = A.length) (h : D.length ≤ n) : putAt (A ++ List.replicate n 0) o D = A ++ D ++ List.replicate (n - D.length) 0 := by
  subst ho
  unfold putAt
  rw [List.take_left, ← List.drop_drop, List.drop_left, List.drop_replicate]
theorem setCells_heap (g : Nat) (t : TypeId) : ∀ (vs : List Value) (o : Nat) (C : Array Value) (w : World), w.heap[g]? = some (.cells C t (0, 0)) → o + vs.length ≤ C.size →
    (w.setCells g o vs).heap[g]? = some (.cells (C.toList.take o ++ vs ++ C.toList.drop (o + vs.length)).toArray t (0, 0)) ∧ (∀ k, k ≠ g → (w.setCells g o vs).heap[k]? = w.heap[k]?) ∧ (w.setCells g o vs).heap.size = w.heap.size ∧ (∀ B, B ≤ g → Below B w (w.setCells g o vs))
  | [], o, C, w, hg, h => by
    refine ⟨?_, fun _ _ => rfl, rfl, fun B _ => Below.refl B w⟩
    show w.heap[g]? = _
    rw [hg]
    simp
  | v :: vs, o, C, w, hg, h => by
    have h1 := heap_setCell_same w g o C t v hg
    have hsz : (C.setIfInBounds o v).size = C.size := by simp
    have hlt : o < C.size := by simp at h; omega
    obtain ⟨r1, r2, r3, r4⟩ := setCells_heap g t vs (o + 1) (C.setIfInBounds o v) (w.setCell ⟨g, o, none⟩ v) h1 (by rw [hsz]; simp at h; omega)
    have e : w.setCells g o (v :: vs) = (w.setCell ⟨g, o, none⟩ v).setCells g (o + 1) vs := rfl
    rw [e]
    refine ⟨?_, ?_, ?_, ?_⟩
    · rw [r1]
      congr 2
      have e1 : (C.setIfInBounds o v).toList = C.toList.set o v := by simp
      rw [e1]
      have e2 : C.toList.set o v = C.toList.take o ++ v :: C.toList.drop (o + 1) := List.set_eq_take_append_cons_drop.trans (by simp [hlt])
      rw [e2]
      have e3 : (C.toList.take o).length = o := by simp; omega
      rw [show o + 1 = (C.toList.take o ++ [v]).length by simp; omega, show C.toList.take o ++ v :: C.toList.drop (C.toList.take o ++ [v]).length = (C.toList.take o ++ [v]) ++ C.toList.drop (C.toList.take o ++ [v]).length by simp, List.take_left]
      rw [← List.drop_drop, List.drop_left, List.drop_drop]
      simp only [List.append_assoc, List.cons_append, List.nil_append, List.length_append, List.length_cons, List.length_nil, e3]
      rw [show o + (0 + 1) + vs.length = o + (vs.length + 1) by omega]
    · intro k hk
      rw [r2 k hk]
      exact Below.heap_setCell w ⟨g, o, none⟩ v k hk
    · rw [r3]; simp [World.setCell]
    · intro B hB
      exact ((Below.refl B w).setCell (p := ⟨g, o, none⟩) hB v).trans (r4 B hB)
theorem bc_put (L D : List UInt8) (o : Nat) : ((bc L).toList.take o ++ (bc D).toList ++ (bc L).toList.drop (o + (bc D).toList.length)).toArray = bc (putAt L o D) := by
  unfold bc putAt Lib.byteCells
  simp [List.map_take, List.map_drop]
theorem bc_there (w : World) (g o n : Nat) (L : List UInt8) (t : TypeId) (hg : w.heap[g]? = some (.cells (bc L) t (0, 0))) (h : o + n ≤ L.length) : w.there g o n := by
  intro j hj
  refine ⟨?_, frozen_of_row _ _ _ _ _ hg⟩
  rw [cell_of_row _ _ _ _ _ _ hg, bc_at _ _ (by omega)]; rfl
/-- A store of bytes into the middle of a block of bytes. -/
theorem wpList_store_at {P : Program} {ops : Array Oper} {rest : List Oper} {op : Oper} {a : Act} {w : World} {Q : Exit → Act → World → Prop} (hgd : op.guard = none) (ty : TypeId) (x y : Operand) (ho : op.op = .store ty x y)
    (g o : Nat) (L D : List UInt8) (t : TypeId) (hx : a.eval x = .pointer (some ⟨g, o, none⟩)) (hy : a.eval y = .agg (bc D)) (hg : w.heap[g]? = some (.cells (bc L) t (0, 0))) (hle : o + D.length ≤ L.length)
    (hi : (P.info? ty).map (·.size) = some (bc D).size)
    (h : ∀ w', w'.heap[g]? = some (.cells (bc (putAt L o D)) t (0, 0)) → (∀ k, k ≠ g → w'.heap[k]? = w.heap[k]?) → w'.heap.size = w.heap.size → (∀ B, B ≤ g → Below B w w') → wpList P ops Q rest (a.put op.dst undef) w') :
    wpList P ops Q (op :: rest) a w := by
  refine wpList_store_mid hgd ty x y ho g o (bc D) hx hy (bc_there w g o _ L t hg (by rw [bc_size]; exact hle)) hi (bc_oneCell D) ?_
  obtain ⟨r1, r2, r3, r4⟩ := setCells_heap g t (bc D).toList o (bc L) w hg (by rw [bc_size]; simpa using hle)
  rw [bc_put] at r1
  exact h _ r1 r2 r3 r4
/-- A part of a block of bytes, as a range. -/
theorem bc_range (w : World) (g o n : Nat) (L : List UInt8) (t : TypeId) (hg : w.heap[g]? = some (.cells (bc L) t (0, 0))) : w.rangeAt g o (Lib.byteCells ((L.drop o).take n)) := by
  have := World.rangeAt_of_block hg o n
  have e : ((bc L).extract o (o + n)).toList = Lib.byteCells ((L.drop o).take n) := by
    unfold bc Lib.byteCells
    simp [List.map_take, List.map_drop, List.extract_eq_take_drop]
  rw [e] at this
  exact this
end Go.Proofs.YtonmccmeljeopaaDoor

namespace Go.Proofs.YtonmccmeljeopaaDoor
open Go.RowKit

theorem wpQuiet_load_mid {P : Program} {ops : Array Oper} {C : World → Prop} {Q : Act → Prop} {a : Act} {o : Oper} {rest : List Oper} (hw : Region.wanted o (yielded ops a.tmps) = true) (ty : TypeId) (x : Operand) (ho : o.op = .load ty x)
    (b off : Nat) (hx : a.eval x = .pointer (some ⟨b, off, none⟩)) (cs : List Value) (d : TypeDesc) (hc : ∀ w, C w → w.rangeAt b off cs)
    (hu : P.underlying ty = some d) (hd : d.isRow = true) (hi : (P.info? ty).map (·.size) = some cs.length)
    (h : wpQuiet P ops C Q rest (a.put o.dst (.agg cs.toArray))) : wpQuiet P ops C Q (o :: rest) a := by
  show if _ then _ else _
  rw [if_pos hw]
  refine ⟨.agg cs.toArray, fun w hC => ?_, h⟩
  have hl := run_loadVar_mid w b off ty cs d (hc w hC) hu hd hi
  unfold Oper.quietAt execOp
  simp only [ho, hx, Instr.loadAt, Instr.sureAddr, Sem.run_bind, Sem.run_pure, Result.andThen_ok, hl]
  exact ⟨rfl, rfl⟩
theorem wpQuiet_eql {P : Program} {ops : Array Oper} {C : World → Prop} {Q : Act → Prop} {a : Act} {o : Oper} {rest : List Oper} (hw : Region.wanted o (yielded ops a.tmps) = true) (t t' : TypeId) (x y : Operand) (ho : o.op = .binOp .eql t x y t')
    (u v : Array Value) (hx : a.eval x = .agg u) (hy : a.eval y = .agg v) (hgt : P.eqGuardType P.depth t = false) (b : Bool) (he : ∀ w, (binOp .eql t (.agg u) (.agg v)).run P w = .ok (.bool b) w)
    (h : wpQuiet P ops C Q rest (a.put o.dst (.bool b))) : wpQuiet P ops C Q (o :: rest) a := by
  show if _ then _ else _
  rw [if_pos hw]
  refine ⟨.bool b, fun w hC => ?_, h⟩
  have hg : (eqGuard .eql t x y (.agg u) (.agg v)).run P w = .ok () w := run_eqGuard_agg w .eql t x y u v hgt
  unfold Oper.quietAt execOp
  simp only [ho, hx, hy, Sem.run_bind, hg, Result.andThen_ok, he]
  exact ⟨rfl, rfl⟩
end Go.Proofs.YtonmccmeljeopaaDoor

namespace Go.Proofs.YtonmccmeljeopaaDoor
open Go Go.RowKit
set_option linter.unusedSimpArgs false
set_option linter.unusedVariables false

/-- A list of digests lies where a slice points. -/
def DL (w : World) (p : Option Addr) (ds : List (List UInt8)) : Prop :=
  (∀ d ∈ ds, d.length = 32) ∧ (ds ≠ [] → ∃ b off, p = some ⟨b, off, none⟩ ∧ b < w.heap.size ∧ ∀ i, i < ds.length → w.rangeAt b (off + i * 32) (Lib.byteCells (ds.getD i [])))
theorem rangeAt_below {w w' : World} {B b off : Nat} {cs : List Value} (h : w.rangeAt b off cs) (hb : Below B w w') (hB : b < B) : w'.rangeAt b off cs := fun i v hv => by
  rw [← h i v hv]
  exact hb.cell (p := ⟨b, off + i, none⟩) hB
theorem DL.below {w w' : World} {B : Nat} {p : Option Addr} {ds : List (List UInt8)} (h : DL w p ds) (hb : Below B w w') (hB : w.heap.size ≤ B) : DL w' p ds := by
  refine ⟨h.1, fun hn => ?_⟩
  obtain ⟨b, off, rfl, hlt, hc⟩ := h.2 hn
  exact ⟨b, off, rfl, Nat.lt_of_lt_of_le hlt hb.size, fun i hi => rangeAt_below (hc i hi) hb (Nat.lt_of_lt_of_le hlt hB)⟩
theorem DL.len {w : World} {p : Option Addr} {ds : List (List UInt8)} (h : DL w p ds) (i : Nat) (hi : i < ds.length) : (ds.getD i []).length = 32 := by
  have := h.1 (ds[i]'hi) (List.getElem_mem _)
  simpa [List.getD, hi] using this
/-- What stands at a place. -/
def pStand (ds : List (List UInt8)) (x : Nat) (z : List UInt8) : List UInt8 := if x < ds.length then ds.getD x [] else z
theorem pStand_length {ds : List (List UInt8)} (h : ∀ d ∈ ds, d.length = 32) (x : Nat) (z : List UInt8) (hz : z.length = 32) : (pStand ds x z).length = 32 := by
  unfold pStand
  split
  · rename_i hi
    have := h (ds[x]'hi) (List.getElem_mem _)
    simpa [List.getD, hi] using this
  · exact hz
/-- Up a branch. -/
def pClimb (leaf : List UInt8) (at' : Nat) (ds : List (List UInt8)) : Nat → List UInt8
  | 0 => leaf
  | k + 1 => if at' / 2 ^ k % 2 = 1 then pNode (ds.getD k []) (pClimb leaf at' ds k) else pNode (pClimb leaf at' ds k) (ds.getD k [])
theorem pClimb_length (leaf : List UInt8) (at' : Nat) (ds : List (List UInt8)) (hl : leaf.length = 32) : ∀ k, (pClimb leaf at' ds k).length = 32
  | 0 => hl
  | k + 1 => by unfold pClimb; split <;> exact pNode_length _ _
theorem mand_one (M : Nat) (h : M < 4294967296) : bits .and .u32 (M : Int) 1 = ((M % 2 : Nat) : Int) := by
  have := u32_and_nat M 1 h (by omega)
  rw [Nat.and_one_is_mod] at this
  exact this
end Go.Proofs.YtonmccmeljeopaaDoor

namespace Go.Proofs.YtonmccmeljeopaaDoor
open Go Go.RowKit
set_option linter.unusedSimpArgs false
set_option linter.unusedVariables false

/-- A list lies in no block of the log. -/
def Out (p : Option Addr) (S : Nat → Prop) : Prop := ∀ a, p = some a → ¬ S a.block
theorem rangeAt_of {w w' : World} {b off : Nat} {cs : List Value} (h : w.rangeAt b off cs) (hb : w'.heap[b]? = w.heap[b]?) : w'.rangeAt b off cs := fun i v hv => by
  rw [← h i v hv]
  exact World.cell?_of_block (w := w) hb
theorem DL.rbut {S : Nat → Prop} {w w' : World} {p : Option Addr} {ds : List (List UInt8)} (h : DL w p ds) (hb : RBut S w w') (ho : ds ≠ [] → Out p S) : DL w' p ds := by
  refine ⟨h.1, fun hn => ?_⟩
  obtain ⟨b, off, rfl, hlt, hc⟩ := h.2 hn
  exact ⟨b, off, rfl, Nat.lt_of_lt_of_le hlt hb.size, fun i hi => rangeAt_of (hc i hi) (hb.block b hlt (ho hn _ rfl))⟩
theorem Out.step {S S' : Nat → Prop} {w : World} {p : Option Addr} {ds : List (List UInt8)} (h : Out p S) (hD : DL w p ds) (hM : ∀ k, S' k → S k ∨ w.heap.size ≤ k) (hne : ds ≠ []) : Out p S' := by
  obtain ⟨b, off, rfl, hlt, hc⟩ := hD.2 hne
  intro a e hs
  cases e
  rcases hM _ hs with h1 | h1
  · exact h _ rfl h1
  · exact absurd hlt (by show ¬ b < _; have : w.heap.size ≤ b := h1; omega)
theorem Bytes.rbut {S : Nat → Prop} {w w' : World} {g off : Nat} {l : List UInt8} (h : Bytes w g off l) (hb : RBut S w w') (hg : g < w.heap.size) (hn : ¬ S g) : Bytes w' g off l := fun j hj => by
  rw [← h j hj]
  exact World.cell?_of_block (w := w) (hb.block g hg hn)
end Go.Proofs.YtonmccmeljeopaaDoor

namespace Go.Proofs.YtonmccmeljeopaaDoor
open Go.RowKit
set_option linter.unusedSimpArgs false
set_option linter.unusedVariables false

/-- The digest of two neighbours. -/
def pR (a b : List UInt8) : List UInt8 := pOf 4 [a, b]
theorem pR_length (a b : List UInt8) : (pR a b).length = 32 := pOf_length _ _
def upAt (ds : List (List UInt8)) (i : Nat) : List UInt8 := pR (ds.getD (2 * i) []) (ds.getD (2 * i + 1) [])
def pUp (ds : List (List UInt8)) : List (List UInt8) := (List.range (ds.length / 2)).map (upAt ds)
theorem upAt_length (ds : List (List UInt8)) (i : Nat) : (upAt ds i).length = 32 := pR_length _ _
theorem pUp_length (ds : List (List UInt8)) : (pUp ds).length = ds.length / 2 := by simp [pUp]
theorem pUp_at (ds : List (List UInt8)) (i : Nat) (h : i < ds.length / 2) : (pUp ds).getD i [] = upAt ds i := by simp [pUp, h]
theorem pUp_32 (ds : List (List UInt8)) : ∀ d ∈ pUp ds, d.length = 32 := fun d hd => by
  obtain ⟨i, _, rfl⟩ := List.mem_map.1 hd
  exact upAt_length _ _
/-- The levels above the leaves. -/
def kLev (ds : List (List UInt8)) : Nat → List (List UInt8)
  | 0 => ds
  | k + 1 => pUp (kLev ds k)
theorem kLev_length (ds : List (List UInt8)) : ∀ k, (kLev ds k).length = ds.length / 2 ^ k
  | 0 => by simp [kLev]
  | k + 1 => by rw [kLev, pUp_length, kLev_length ds k, Nat.pow_succ, Nat.div_div_eq_div_mul]
theorem kLev_32 (ds : List (List UInt8)) (h : ∀ d ∈ ds, d.length = 32) : ∀ k, ∀ d ∈ kLev ds k, d.length = 32
  | 0 => h
  | k + 1 => pUp_32 _
def kRoot (ds : List (List UInt8)) : List UInt8 := (kLev ds 4).getD 0 []
def pathAt (ds : List (List UInt8)) (x i : Nat) : List UInt8 := (kLev ds i).getD ((x / 2 ^ i) ^^^ 1) []
def kPath (ds : List (List UInt8)) (x : Nat) : List (List UInt8) := (List.range 4).map (pathAt ds x)
def kClimb (leaf : List UInt8) (x : Nat) (ds : List (List UInt8)) : Nat → List UInt8
  | 0 => leaf
  | k + 1 => if x / 2 ^ k % 2 = 1 then pR (ds.getD k []) (kClimb leaf x ds k) else pR (kClimb leaf x ds k) (ds.getD k [])
theorem kClimb_length (leaf : List UInt8) (x : Nat) (ds : List (List UInt8)) (hl : leaf.length = 32) : ∀ k, (kClimb leaf x ds k).length = 32
  | 0 => hl
  | k + 1 => by unfold kClimb; split <;> exact pR_length _ _
theorem kxor1 (B : Nat) : B ^^^ 1 = if B % 2 = 1 then B - 1 else B + 1 := by
  have h1 : (B ^^^ 1) / 2 = B / 2 := by rw [Nat.xor_div_two]; simp
  have h2 : (B ^^^ 1) % 2 ^ 1 = (B % 2 ^ 1) ^^^ (1 % 2 ^ 1) := Nat.xor_mod_two_pow
  rw [Nat.pow_one] at h2
  rcases Nat.mod_two_eq_zero_or_one B with h | h
  · rw [h] at h2
    rw [h, if_neg (by decide)]
    have h3 : (B ^^^ 1) % 2 = 1 := h2
    omega
  · rw [h] at h2
    rw [h, if_pos rfl]
    have h3 : (B ^^^ 1) % 2 = 0 := h2
    omega
theorem kPath_at (ds : List (List UInt8)) (x i : Nat) (h : i < 4) : (kPath ds x).getD i [] = pathAt ds x i := by simp [kPath, h]
theorem kPath_length (ds : List (List UInt8)) (x : Nat) : (kPath ds x).length = 4 := by simp [kPath]
theorem pow4 (k : Nat) (h : k ≤ 4) : 16 / 2 ^ k * 2 ^ k = 16 := by
  have : k = 0 ∨ k = 1 ∨ k = 2 ∨ k = 3 ∨ k = 4 := by omega
  rcases this with rfl | rfl | rfl | rfl | rfl <;> rfl
theorem place_lt (x k : Nat) (hx : x < 16) (h : k ≤ 4) : x / 2 ^ k < 16 / 2 ^ k := by
  have : k = 0 ∨ k = 1 ∨ k = 2 ∨ k = 3 ∨ k = 4 := by omega
  rcases this with rfl | rfl | rfl | rfl | rfl <;> omega
theorem side_lt (x k : Nat) (hx : x < 16) (h : k < 4) : (x / 2 ^ k) ^^^ 1 < 16 / 2 ^ k := by
  have h1 := place_lt x k hx (by omega)
  rw [kxor1]
  have : k = 0 ∨ k = 1 ∨ k = 2 ∨ k = 3 := by omega
  rcases this with rfl | rfl | rfl | rfl <;> split <;> omega
theorem kClimb_path (ds : List (List UInt8)) (hd : ds.length = 16) (x : Nat) (hx : x < 16) : ∀ k, k ≤ 4 → kClimb (ds.getD x []) x (kPath ds x) k = (kLev ds k).getD (x / 2 ^ k) []
  | 0, _ => by rw [Nat.pow_zero, Nat.div_one]; rfl
  | k + 1, hk => by
    have ih := kClimb_path ds hd x hx k (by omega)
    have e : x / 2 ^ (k + 1) = x / 2 ^ k / 2 := by rw [Nat.pow_succ, ← Nat.div_div_eq_div_mul]
    have hl := kLev_length ds k
    rw [hd] at hl
    have hp := place_lt x k hx (by omega)
    have hp1 := place_lt x (k + 1) hx hk
    have h2 : 16 / 2 ^ (k + 1) = 16 / 2 ^ k / 2 := by rw [Nat.pow_succ, ← Nat.div_div_eq_div_mul]
    show (if x / 2 ^ k % 2 = 1 then pR ((kPath ds x).getD k []) (kClimb (ds.getD x []) x (kPath ds x) k) else pR (kClimb (ds.getD x []) x (kPath ds x) k) ((kPath ds x).getD k [])) = (pUp (kLev ds k)).getD (x / 2 ^ (k + 1)) []
    rw [kPath_at ds x k (by omega), ih, pUp_at _ _ (by rw [hl]; omega), e]
    unfold pathAt upAt
    rw [kxor1]
    generalize kLev ds k = L
    generalize x / 2 ^ k = B
    by_cases h : B % 2 = 1
    · rw [if_pos h, if_pos h, show 2 * (B / 2) = B - 1 by omega, show B - 1 + 1 = B by omega]
    · rw [if_neg h, if_neg h, show 2 * (B / 2) = B by omega]
/-- A leaf's path climbs to the root. -/
theorem kClimb_root (ds : List (List UInt8)) (hd : ds.length = 16) (x : Nat) (hx : x < 16) : kClimb (ds.getD x []) x (kPath ds x) 4 = kRoot ds := by
  rw [kClimb_path ds hd x hx 4 (Nat.le_refl _)]
  have : x / 2 ^ 4 = 0 := by omega
  rw [this]; rfl
theorem kRoot_length (ds : List (List UInt8)) (hd : ds.length = 16) : (kRoot ds).length = 32 := by
  have h := kLev_length ds 4
  rw [hd] at h
  have h1 : 0 < (kLev ds 4).length := by rw [h]; decide
  unfold kRoot
  rw [List.getD_eq_getElem?_getD, List.getElem?_eq_getElem h1]
  exact pUp_32 _ _ (List.getElem_mem _)
end Go.Proofs.YtonmccmeljeopaaDoor

namespace Go.Proofs.YtonmccmeljeopaaDoor
open Go.RowKit
set_option linter.unusedSimpArgs false
set_option linter.unusedVariables false

theorem strsAt_pair (w : World) (l0 l1 : List UInt8) (t : TypeId) : StrsAt (w.alloc (.cells #[.string (str l0), .string (str l1)] t)) (some ⟨w.heap.size, 0, none⟩) [l0, l1] := by
  refine .inr ⟨w.heap.size, 0, rfl, by simp, fun j hj => ?_⟩
  match j, hj with
  | 0, _ => go_simp
  | 1, _ => go_simp
  | j + 2, hj => simp at hj; omega
set_option maxHeartbeats 2000000 in
set_option maxRecDepth 100000 in
theorem twoD_calls (dom : Nat) (hdom : dom < 256) (a b : List UInt8) (ha : a.length = 32) (hb : b.length = 32) (w : World) (tabs : Tabs w) :
    Calls Tryd.prog 39 #[.pointer none, .int .u8 (dom : Int), .agg (bc a), .agg (bc b)] w fun e w' => e = .returned (.agg (bc (pOf dom [a, b]))) ∧ Below w.heap.size w w' := by
  have co := fun g w hs tabs => ofNil_calls dom hdom [a, b] (by simp; omega) (by simp) (some ⟨g, 0, none⟩) 2 w hs tabs
  have hia := digInfo a ha
  have hib := digInfo b hb
  have hi1 := digInfo (pOf dom [a, b]) (pOf_length dom [a, b])
  have hz1 := zeroSize (pOf dom [a, b]) (pOf_length dom [a, b])
  have ho1 := bc_oneCell (pOf dom [a, b])
  have ca := fun w => wdigest_calls a ha w
  have cb := fun w => wdigest_calls b hb w
  generalize pOf dom [a, b] = D at *
  have A3 := hide (al3 w (.cells (bc a) 23) (.cells (bc b) 23) (.cells (bc (List.replicate 32 0)) 23))
  have B3 := hide (bel3 w (.cells (bc a) 23) (.cells (bc b) 23) (.cells (bc (List.replicate 32 0)) 23))
  have S3 : Hid ((((w.alloc (.cells (bc a) 23)).alloc (.cells (bc b) 23)).alloc (.cells (bc (List.replicate 32 0)) 23)).heap.size = w.heap.size + 1 + 1 + 1) := hide (by simp)
  generalize hX : ((w.alloc (.cells (bc a) 23)).alloc (.cells (bc b) 23)).alloc (.cells (bc (List.replicate 32 0)) 23) = X at *
  have HX := hide hX
  have CO := hide co
  have HT := hide tabs
  have kA : Hid (∀ dd os, Calls Tryd.prog 42 #[.agg (bc a)] (Sort.grow (redrawn X.drew dd) os) fun e w'' => e = .returned (.string (str a)) ∧ ∃ p : Regrown, w'' = Sort.grow (redrawn X.drew p.d) p.os) := fun dd os => Calls.regrown_of (ca _)
  have kB : Hid (∀ dd os, Calls Tryd.prog 42 #[.agg (bc b)] (Sort.grow (redrawn X.drew dd) os) fun e w'' => e = .returned (.string (str b)) ∧ ∃ p : Regrown, w'' = Sort.grow (redrawn X.drew p.d) p.os) := fun dd os => Calls.regrown_of (cb _)
  have dX : Below X.heap.size X X.drew := ⟨rfl, rfl, rfl, Nat.le_refl _, fun _ _ => rfl⟩
  have s3 := unhide S3
  have R0 : Hid (∀ w', (∃ p : Regrown, w' = Sort.grow (redrawn X.drew p.d) p.os) → w'.heap[w.heap.size]? = some (.cells (bc a) 23 (0, 0))) := fun w' ⟨p, hp⟩ => by
    rw [hp]; exact Below.at (below_regrown X.drew p.d p.os) (by show _ < X.heap.size; omega) (unhide A3).1
  have R1 : Hid (∀ w', (∃ p : Regrown, w' = Sort.grow (redrawn X.drew p.d) p.os) → w'.heap[w.heap.size + 1]? = some (.cells (bc b) 23 (0, 0))) := fun w' ⟨p, hp⟩ => by
    rw [hp]; exact Below.at (below_regrown X.drew p.d p.os) (by show _ < X.heap.size; omega) (unhide A3).2.1
  clear co ca cb tabs s3 dX hX
  go_enter Tryd.func39, Tryd.ntmps39
  go_wp2_with fail
  change Code.wp _ _ _ _ (((w.alloc (.cells (bc a) 23)).alloc (.cells (bc b) 23)).alloc (.cells (bc (List.replicate 32 0)) 23))
  rw [unhide HX]
  refine wp_region_any mixed ?_
  change wpAny _ _ _ _ _ _ _ X.drew
  refine wpAny_take (i := 0) rfl (by kernel_rfl) (by kernel_rfl) (by kernel_rfl) (fun _ _ _ h => h) (.inl ⟨rfl, fun _ => rfl⟩) ?_
  refine wpAny_take (i := 1) rfl (by kernel_rfl) (by kernel_rfl) (by kernel_rfl) (fun _ _ _ h => h) (.inl ⟨rfl, fun _ => rfl⟩) ?_
  refine wpAny_below_head 2 6 (by kernel_rfl) ?_
  simp only [List.take_succ_cons, List.take_zero, List.drop_succ_cons, List.drop_zero]
  refine wpQuiet_load_row rfl 23 (.tmp 6) rfl w.heap.size rfl 23 _ (0, 0) _ (unhide R0) Tryd.underlying23 rfl hia ?_
  quiet_step (exact unhide kA _ _)
  refine wpQuiet_load_row rfl 23 (.tmp 7) rfl (w.heap.size + 1) rfl 23 _ (0, 0) _ (unhide R1) Tryd.underlying23 rfl hib ?_
  quiet_step (exact unhide kB _ _)
  refine wpQuiet_nil ?_
  intro w2 hb2
  have hb2' : Below X.heap.size X w2 := ⟨hb2.os, hb2.tape, hb2.output, hb2.size, hb2.block⟩
  have s3 := unhide S3
  have q2 := Below.at hb2' (by omega) (unhide A3).2.2
  have hbw : Below w.heap.size w w2 := (unhide B3).trans (hb2'.mono (by omega))
  have z2 : w.heap.size + 1 + 1 < w2.heap.size := by have := hb2'.size; omega
  have HB := hide hbw
  have Q2 := hide q2
  have Z2 := hide z2
  clear hb2 hb2' s3 q2 hbw z2
  refine wpAny_rest 6 (by kernel_rfl) ?_
  simp only [List.drop_succ_cons, List.drop_zero]
  go_wp2_with fail
  refine (unhide CO _ _ (strsAt_pair w2 a b _) (((unhide HT).below (unhide HB) (Nat.le_refl _)).below' ((Below.refl _ w2).alloc (Nat.le_refl _) _))).mono ?_
  rintro e w3 ⟨rfl, b3⟩
  have q3 := Below.at b3 (by have := unhide Z2; simp; omega) ((Below.heap_alloc w2 (.cells #[.string (str a), .string (str b)] 9) _ (unhide Z2)).trans (unhide Q2))
  have hb3 : Below w.heap.size w w3 := ((unhide HB).alloc (by have := unhide Z2; omega) _).trans (b3.mono (by have := unhide Z2; simp; omega))
  have Q3 := hide q3
  have HB3 := hide hb3
  clear b3 q3 hb3
  go_wp2_with (refine wpList_store_row rfl 23 (.tmp 8) (.tmp 16) rfl (w.heap.size + 1 + 1) _ rfl rfl 23 _ (unhide Q3) hi1 hz1 ho1 ?_)
  exact bodyPost_ret (results_cell_row rfl _ _ (w.heap.size + 1 + 1) _ _ _ _ rfl (setRow_heap _ _ _ _ _ _ (unhide Q3)) Tryd.underlying23 rfl hi1) rfl ⟨rfl, below_setRow (unhide HB3) (by omega) _⟩
end Go.Proofs.YtonmccmeljeopaaDoor

namespace Go.Proofs.YtonmccmeljeopaaDoor
open Go Go.RowKit
set_option linter.unusedSimpArgs false
set_option linter.unusedVariables false

theorem keyLits_ints' {P : Program} (t e : TypeId) (n : Nat) (k : IntKind) (hu : P.underlying t = some (.array n e)) (he : P.underlying e = some (.int k)) (hce : P.cellsOf e = 1) (hct : P.cellsOf t = n)
    (zs : List Int) (hl : zs.length = n) (hw : ∀ z ∈ zs, (Lit.int k z).wf = true) : P.keyLits 2 t (zs.map (Value.int k)) = some (zs.map (Lit.int k)) := by
  unfold Program.keyLits
  simp only [hu]
  rw [if_pos (by simp [hl, hct])]
  rw [mapM_some _ (fun i => [Lit.int k (zs.getD i 0)]) _ (fun i hi => ?_)]
  · have e : ((List.range n).map fun i => [Lit.int k (zs.getD i 0)]).flatten = zs.map (Lit.int k) := by
      apply List.ext_getElem?
      intro i
      have e1 : ((List.range n).map fun i => [Lit.int k (zs.getD i 0)]).flatten = (List.range n).map fun i => Lit.int k (zs.getD i 0) := by
        induction (List.range n) with
        | nil => rfl
        | cons x l ih => rw [List.map_cons, List.flatten_cons, ih]; rfl
      rw [e1]
      by_cases hi : i < n
      · simp [hi, hl]
      · simp [hi, hl]
    show some _ = some _
    rw [← e]
  · have hi' : i < zs.length := by rw [hl]; exact List.mem_range.1 hi
    rw [hce, Nat.mul_one, List.drop_eq_getElem_cons (by simpa using hi')]
    unfold Program.keyLits
    simp only [he]
    have hz : (Lit.int k zs[i]).wf = true := hw _ (List.getElem_mem _)
    simp [hz, hi']
theorem dig_lits (d : List UInt8) (hd : d.length = 32) : Tryd.prog.keyLits 2 23 (bc d).toList = some ((d.map fun b => (b.toNat : Int)).map (Lit.int .u8)) := by
  have := keyLits_ints' (P := Tryd.prog) 23 5 32 .u8 Tryd.underlying23 Tryd.underlying5 (by kernel_rfl) (by kernel_rfl) (d.map fun b => (b.toNat : Int)) (by simpa using hd) (fun z hz => by
    obtain ⟨b, _, rfl⟩ := List.mem_map.1 hz
    have := b.toNat_lt
    simp [Lit.wf, IntKind.min, IntKind.max, IntKind.signed, IntKind.bits]; omega)
  rw [← this]; simp [bc, Lib.byteCells]; rfl
theorem dig_formed (d : List UInt8) (hd : d.length = 32) : (Value.agg (bc d)).formed Tryd.prog 23 = true := by
  simp only [Value.formed, Tryd.underlying23, bc_size, hd]; kernel_rfl
theorem lits_inj (a b : List UInt8) (h : (a.map fun b => (b.toNat : Int)).map (Lit.int .u8) = (b.map fun b => (b.toNat : Int)).map (Lit.int .u8)) : a = b := by
  rw [List.map_map, List.map_map] at h
  refine List.map_inj_right (f := fun b : UInt8 => Lit.int .u8 (b.toNat : Int)) (fun x y hxy => ?_) |>.1 h
  injection hxy with _ h2
  exact UInt8.toNat_inj.1 (by omega)
theorem dig_eq (a b : List UInt8) (ha : a.length = 32) (hb : b.length = 32) (w : World) : (binOp .eql 23 (.agg (bc a)) (.agg (bc b))).run Tryd.prog w = .ok (.bool (decide (a = b))) w := by
  obtain ⟨r, hr, hiff⟩ := run_equalIn_deep (P := Tryd.prog) (10000 - 2) 2 23 (by kernel_rfl) w 2 2 (.agg (bc a)) (.agg (bc b)) _ _ (dig_formed a ha) (dig_formed b hb) (dig_lits a ha) (dig_lits b hb)
  rw [show 10000 - 2 + 2 = 10000 by omega] at hr
  have : r = decide (a = b) := by
    by_cases h : a = b
    · rw [decide_eq_true h]; exact hiff.2 (by rw [h])
    · rw [decide_eq_false h]
      cases r with
      | false => rfl
      | true => exact absurd (lits_inj a b (hiff.1 rfl)) h
  rw [run_eql_struct, hr, this]; rfl
end Go.Proofs.YtonmccmeljeopaaDoor

namespace Go.Proofs.YtonmccmeljeopaaDoor
open Go Go.RowKit
set_option linter.unusedSimpArgs false
set_option linter.unusedVariables false

def pProves (root leaf : List UInt8) (x : Nat) (ds : List (List UInt8)) : Bool := decide (ds.length = 32) && decide (pClimb leaf x ds 32 = root)
end Go.Proofs.YtonmccmeljeopaaDoor

namespace Go.Proofs.YtonmccmeljeopaaDoor
open Go.RowKit
set_option linter.unusedSimpArgs false
set_option linter.unusedVariables false

theorem repl_getD (n j : Nat) (h : j < n) : (List.replicate n (0 : UInt8)).getD j 0 = 0 := by
  rw [List.getD_eq_getElem?_getD, List.getElem?_replicate, if_pos h]; rfl
/-- A new list of digests, all noughts. -/
theorem make_digests (n : Nat) (h : n ≤ 4294967296) (w : World) : (Instr.makeSlice 24 (.int .i64 (n : Int)) (.int .i64 (n : Int))).run Tryd.prog w = .ok (.slice (some ⟨w.heap.size, 0, none⟩) n n) (w.alloc (.cells (bc (List.replicate (32 * n) 0)) 23)) := by
  obtain ⟨i, hi⟩ : ∃ i, Tryd.prog.info? 23 = some i := by
    cases hq : Tryd.prog.info? 23 with
    | none => exact absurd hq (by rw [show Tryd.prog.info? 23 = some ((Tryd.prog.info? 23).getD default) by kernel_rfl]; simp)
    | some i => exact ⟨i, rfl⟩
  have e : (Tryd.prog.info? 23).map (fun i => (i.zero, i.size, i.bytes)) = some (some (.agg (bc (List.replicate 32 0))), 32, 32) := by kernel_rfl
  rw [hi] at e
  simp only [Option.map_some, Option.some.injEq, Prod.mk.injEq] at e
  obtain ⟨e1, e2, e3⟩ := e
  have := run_make (P := Tryd.prog) w 24 23 i (.agg (bc (List.replicate 32 0))) Tryd.underlying24 hi e1 .i64 .i64 n n (by omega) (by omega) (by rw [e3]; omega) (by omega)
  rw [this, e2]
  simp only [Int.toNat_natCast]
  rw [show (Value.agg (bc (List.replicate 32 0))).cells = bc (List.replicate 32 0) from rfl]
  have em : madeCells (bc (List.replicate 32 0)) (n * 32) = bc (List.replicate (32 * n) 0) := by
    apply Array.ext
    · simp [size_madeCells]; omega
    · intro j h1 h2
      have hz : ∀ r, r < 32 → (bc (List.replicate 32 0))[r]! = Value.int .u8 0 := fun r hr => by
        have hb := bc_at (List.replicate 32 0) r (by simpa using hr)
        rw [getElem!_def, hb, repl_getD 32 r hr]; rfl
      have h2' : j < 32 * n := by simpa using h2
      have hb2 := bc_at (List.replicate (32 * n) 0) j (by simpa using h2')
      have e2 : (bc (List.replicate (32 * n) 0))[j] = Value.int .u8 0 := by
        rw [Array.getElem?_eq_getElem h2] at hb2
        rw [Option.some.inj hb2, repl_getD (32 * n) j h2']; rfl
      rw [e2]
      simp only [madeCells, Array.getElem_map, Array.getElem_range]
      exact hz _ (by rw [bc_size, List.length_replicate]; omega)
  rw [em]

end Go.Proofs.YtonmccmeljeopaaDoor

namespace Go.Proofs.YtonmccmeljeopaaDoor
open Go Go.RowKit
set_option linter.unusedSimpArgs false
set_option linter.unusedVariables false

def aboveAt (ds : List (List UInt8)) (z : List UInt8) (i : Nat) : List UInt8 := pNode (ds.getD (2 * i) []) (pStand ds (2 * i + 1) z)
def pAbove (ds : List (List UInt8)) (z : List UInt8) : List (List UInt8) := (List.range ((ds.length + 1) / 2)).map (aboveAt ds z)
theorem aboveAt_length (ds : List (List UInt8)) (z : List UInt8) (i : Nat) : (aboveAt ds z i).length = 32 := pNode_length _ _
theorem pAbove_length (ds : List (List UInt8)) (z : List UInt8) : (pAbove ds z).length = (ds.length + 1) / 2 := by simp [pAbove]
theorem pAbove_at (ds : List (List UInt8)) (z : List UInt8) (i : Nat) (h : i < (ds.length + 1) / 2) : (pAbove ds z).getD i [] = aboveAt ds z i := by simp [pAbove, h]
theorem flat_len32 (f : Nat → List UInt8) (hf : ∀ j, (f j).length = 32) (k : Nat) : ((List.range k).flatMap f).length = 32 * k := by
  induction k with
  | zero => rfl
  | succ k ih => rw [List.range_succ, List.flatMap_append, List.length_append, ih]; simp [hf]; omega
theorem flat_at32 (f : Nat → List UInt8) (hf : ∀ j, (f j).length = 32) : ∀ k i, i < k → (((List.range k).flatMap f).drop (i * 32)).take 32 = f i
  | 0, i, h => by omega
  | k + 1, i, h => by
    rw [List.range_succ, List.flatMap_append]
    have hl := flat_len32 f hf k
    by_cases hik : i < k
    · rw [List.drop_append_of_le_length (by omega), List.take_append_of_le_length (by rw [List.length_drop]; omega)]
      exact flat_at32 f hf k i hik
    · obtain rfl : i = k := by omega
      rw [List.drop_append, List.drop_of_length_le (by omega), hl, show i * 32 - 32 * i = 0 by omega]
      simp [hf]
      exact List.take_of_length_le (by rw [hf]; exact Nat.le_refl _)
theorem DL.other {w w' : World} {p : Option Addr} {ds : List (List UInt8)} (h : DL w p ds) (hs : w'.heap.size = w.heap.size) (hk : ds ≠ [] → ∀ b off, p = some ⟨b, off, none⟩ → w'.heap[b]? = w.heap[b]?) : DL w' p ds := by
  refine ⟨h.1, fun hn => ?_⟩
  obtain ⟨b, off, rfl, hlt, hc⟩ := h.2 hn
  refine ⟨b, off, rfl, by omega, fun i hi j v hv => ?_⟩
  rw [← hc i hi j v hv]
  exact World.cell?_of_block (w := w) (hk hn b off rfl)
/-- The list lies in no block from N to N + 1. -/
def Far2 (N : Nat) (p : Option Addr) (ds : List (List UInt8)) : Prop := ds ≠ [] → ∀ b off, p = some ⟨b, off, none⟩ → b < N ∨ N + 1 < b
theorem far2_of {w : World} {p : Option Addr} {ds : List (List UInt8)} (h : DL w p ds) {N : Nat} (hN : w.heap.size ≤ N) : Far2 N p ds := fun hn b off e => by
  obtain ⟨b', off', e', hlt, _⟩ := h.2 hn
  rw [e'] at e
  simp at e
  omega
/-- A block of digests, as a list of them. -/
theorem DL_of_flat {w : World} {g : Nat} {t : TypeId} (f : Nat → List UInt8) (hf : ∀ j, (f j).length = 32) (m : Nat) (hg : w.heap[g]? = some (.cells (bc ((List.range m).flatMap f)) t (0, 0))) : DL w (some ⟨g, 0, none⟩) ((List.range m).map f) := by
  refine ⟨fun d hd => ?_, fun hn => ⟨g, 0, rfl, (Array.getElem?_eq_some_iff.1 hg).1, fun i hi => ?_⟩⟩
  · obtain ⟨j, _, rfl⟩ := List.mem_map.1 hd; exact hf j
  · have hi' : i < m := by simpa using hi
    have := bc_range w g (0 + i * 32) 32 _ t hg
    rw [Nat.zero_add] at this ⊢
    rw [flat_at32 f hf m i hi'] at this
    simpa [hi'] using this
end Go.Proofs.YtonmccmeljeopaaDoor

namespace Go.Proofs.YtonmccmeljeopaaDoor
open Go Go.RowKit
set_option linter.unusedSimpArgs false
set_option linter.unusedVariables false

set_option maxHeartbeats 4000000 in
set_option maxRecDepth 100000 in
theorem kabove_calls (ds : List (List UInt8)) (p : Option Addr) (cap : Nat) (hlen : ds.length ≤ 100000000) (w : World) (hD : DL w p ds) (tabs : Tabs w) :
    Calls Tryd.prog 29 #[.pointer none, .slice p ds.length cap] w fun e w' => (∃ g c, e = .returned (.slice (some ⟨g, 0, none⟩) (pUp ds).length c) ∧ (pUp ds).length ≤ c ∧ w.heap.size ≤ g ∧ DL w' (some ⟨g, 0, none⟩) (pUp ds)) ∧ Below w.heap.size w w' := by
  obtain ⟨m, hm⟩ : ∃ m, ds.length / 2 = m := ⟨_, rfl⟩
  have hmi : (ds.length : Int) / 2 = (m : Int) := by omega
  have hmt : (ds.length : Int).tdiv 2 = (m : Int) := by rw [Int.tdiv_eq_ediv_of_nonneg (by omega)]; exact hmi
  have mk := make_digests m (by omega)
  have A2 := hide (al1 w (.cells (bc (List.replicate (32 * m) 0)) 23))
  have B2 := hide ((Below.refl w.heap.size w).alloc (Nat.le_refl _) (.cells (bc (List.replicate (32 * m) 0)) 23))
  have HD := hide hD
  have HT := hide tabs
  have Hm := hide hm
  have Hlen := hide hlen
  rw [pUp_length, hm]
  clear hD tabs hm
  obtain ⟨F, hF⟩ : ∃ F, upAt ds = F := ⟨_, rfl⟩
  have HFl : Hid (∀ j, (F j).length = 32) := hide (by rw [← hF]; exact upAt_length ds)
  have HF := hide hF
  have hpa : Hid (pUp ds = (List.range m).map F) := hide (by unfold pUp; rw [unhide Hm, hF])
  rw [unhide hpa]
  clear hF
  go_enter Tryd.func29, Tryd.ntmps29
  go_wp2
  obtain ⟨N, hN⟩ : ∃ N, w.heap.size = N := ⟨_, rfl⟩
  have HN := hide hN
  go_loopw [13] (fun i wr => ∃ k : Nat, k ≤ m ∧ i = .int .i64 (k : Int) ∧ Below N w wr ∧ wr.heap[N]? = some (.cells (bc ((List.range k).flatMap F ++ List.replicate (32 * (m - k)) 0)) 23 (0, 0))) (fun i _ => m - (intOf i).toNat)
  case atStart =>
    subst hN
    refine ⟨0, by omega, rfl, unhide B2, ?_⟩
    simpa using (unhide A2)
  case round =>
    obtain ⟨k, hk, rfl, hb, q1⟩ := hrel
    rw [hN]
    clear A2 B2 mk hmi hmt
    by_cases hlt : k < m
    · have hd : decide (k < m) = true := by simpa using hlt
      have hmm := unhide Hm
      have hj : 2 * k < ds.length := by omega
      have hj1 : 2 * k + 1 < ds.length := by omega
      have hD0 := unhide HD
      obtain ⟨b, off, rfl, hlt2, hc⟩ := hD0.2 (by intro h; rw [h] at hj; simp at hj)
      have hr := rangeAt_below (hc _ hj) hb (by rw [← hN]; exact hlt2)
      have hr1 := rangeAt_below (hc _ hj1) hb (by rw [← hN]; exact hlt2)
      have hEl := hD0.len _ hj
      have hSl := hD0.len _ hj1
      have tb := (unhide HT).below hb (by rw [← hN]; exact Nat.le_refl _)
      have hz1 : N < wr.heap.size := (Array.getElem?_eq_some_iff.1 q1).1
      have hFk : F k = pOf 4 [ds.getD (2 * k) [], ds.getD (2 * k + 1) []] := by rw [← unhide HF]; rfl
      obtain ⟨j1, hjj1⟩ : ∃ j, 2 * k + 1 = j := ⟨_, rfl⟩
      obtain ⟨j, hjj⟩ : ∃ j, 2 * k = j := ⟨_, rfl⟩
      have ej : (2 : Int) * (k : Int) = (j : Int) := by omega
      have ej1 : (j : Int) + 1 = (j1 : Int) := by omega
      rw [hjj1] at hr1 hSl hFk
      rw [hjj] at hr hEl hFk
      obtain ⟨S, hS⟩ : ∃ S, ds.getD j1 [] = S := ⟨_, rfl⟩
      obtain ⟨E, hE⟩ : ∃ E, ds.getD j [] = E := ⟨_, rfl⟩
      rw [hS] at hr1 hSl hFk
      rw [hE] at hr hEl hFk
      have kN : Hid (∀ dd os, Calls Tryd.prog 39 #[.pointer none, .int .u8 4, .agg (bc E), .agg (bc S)] (Sort.grow (redrawn wr dd) os) fun e w'' => e = .returned (.agg (bc (F k))) ∧ ∃ p : Regrown, w'' = Sort.grow (redrawn wr p.d) p.os) := fun dd os => by
        rw [hFk]; exact Calls.regrown_of (twoD_calls 4 (by decide) E S hEl hSl _ (tb.below (below_regrown wr dd os) (Nat.le_refl _)))
      have RM : Hid (∀ w', (∃ p : Regrown, w' = Sort.grow (redrawn wr p.d) p.os) → w'.rangeAt b (off + j * 32) (Lib.byteCells E)) := fun w' ⟨p, hp⟩ => by
        rw [hp]; exact rangeAt_below hr (below_regrown wr p.d p.os) (by have := hb.size; omega)
      have RS : Hid (∀ w', (∃ p : Regrown, w' = Sort.grow (redrawn wr p.d) p.os) → w'.rangeAt b (off + j1 * 32) (Lib.byteCells S)) := fun w' ⟨p, hp⟩ => by
        rw [hp]; exact rangeAt_below hr1 (below_regrown wr p.d p.os) (by have := hb.size; omega)
      have hput : Hid (putAt ((List.range k).flatMap F ++ List.replicate (32 * (m - k)) 0) (k * 32) (F k) = (List.range (k + 1)).flatMap F ++ List.replicate (32 * (m - (k + 1))) 0) := by
        rw [putAt_zeros _ _ _ _ (by rw [flat_len32 F (unhide HFl)]; omega) (by rw [unhide HFl]; omega), unhide HFl, List.range_succ, List.flatMap_append]
        rw [show 32 * (m - k) - 32 = 32 * (m - (k + 1)) by omega]
        exact hide (by simp)
      have hll : Hid (k * 32 + (F k).length ≤ ((List.range k).flatMap F ++ List.replicate (32 * (m - k)) 0).length) := hide (by rw [List.length_append, flat_len32 F (unhide HFl), List.length_replicate, unhide HFl]; omega)
      have hiF := digInfo (F k) (unhide HFl k)
      have HEl := hide hEl
      have HSl := hide hSl
      have Q1 := hide q1
      have HB := hide hb
      have Hk := hide hlt
      have Hz1 := hide hz1
      have b1 : (0 : Int) ≤ j ∧ (j : Int) < ds.length := by omega
      have b3 : (0 : Int) ≤ j1 ∧ (j1 : Int) < ds.length := by omega
      have b2 : (0 : Int) ≤ k ∧ (k : Int) < m := by omega
      have wj : IntKind.i64.wrap (j : Int) = (j : Int) := wi64 _ (by omega) (by have := unhide Hlen; omega)
      have wj1 : IntKind.i64.wrap (j1 : Int) = (j1 : Int) := wi64 _ (by omega) (by have := unhide Hlen; omega)
      generalize F k = FK at *
      clear q1 hb hlt hz1 tb hFk hS hE hr hr1 hc hlt2 hD0 hEl hSl hjj hjj1 hj hj1 hmm
      go_wp2_with fail
      refine wp_region_below_tail 16 mixed (by kernel_rfl) ?_
      simp only [List.take_succ_cons, List.take_zero, List.drop_succ_cons, List.drop_zero]
      quiet_step (fail)
      quiet_step (fail)
      quiet_step (fail)
      quiet_step (fail)
      quiet_step (fail)
      quiet_step (fail)
      quiet_step (fail)
      refine wpQuiet_load_mid rfl 23 (.tmp 22) rfl b (off + j * 32) rfl (Lib.byteCells E) _ (unhide RM) Tryd.underlying23 rfl (by rw [Lib.byteCells_length, unhide HEl]; kernel_rfl) ?_
      quiet_step (fail)
      quiet_step (fail)
      quiet_step (fail)
      quiet_step (fail)
      quiet_step (fail)
      refine wpQuiet_load_mid rfl 23 (.tmp 28) rfl b (off + j1 * 32) rfl (Lib.byteCells S) _ (unhide RS) Tryd.underlying23 rfl (by rw [Lib.byteCells_length, unhide HSl]; kernel_rfl) ?_
      quiet_step (exact unhide kN _ _)
      quiet_step (fail)
      refine wpQuiet_nil ?_
      intro w2 hb2
      have p1 := Below.at hb2 (unhide Hz1) (unhide Q1)
      have bb : Below N w w2 := (unhide HB).trans (hb2.mono (by have := unhide Hz1; omega))
      have P1 := hide p1
      have BB := hide bb
      clear p1 bb hb2
      refine wpList_store_at rfl 23 (.tmp 31) (.tmp 30) rfl N (k * 32) _ FK 23 (by first | rfl | (simp; done)) rfl (unhide P1) (unhide hll) hiF ?_
      intro w3 r1 r2 r3 r4
      rw [unhide hput] at r1
      have P3 := hide r1
      have B3 := hide ((unhide BB).trans (r4 N (by omega)))
      clear r1 r2 r3 r4
      go_wp2
      exact ⟨⟨k + 1, by have := unhide Hk; omega, by go_num, unhide B3, unhide P3⟩, by have := unhide Hk; simp [intOf]; omega⟩
    · have hd : decide (k < m) = false := by simpa using hlt
      have hkl : k = m := by omega
      rw [hkl, Nat.sub_self, Nat.mul_zero, List.replicate_zero, List.append_nil] at q1
      have Q1 := hide q1
      have HB := hide hb
      clear q1 hb hkl hlt
      go_wp2
      go_ret
      refine ⟨⟨N, m, rfl, Nat.le_refl _, by rw [unhide HN]; omega, DL_of_flat F (unhide HFl) m (unhide Q1)⟩, by rw [unhide HN]; exact unhide HB⟩
end Go.Proofs.YtonmccmeljeopaaDoor

namespace Go.Proofs.YtonmccmeljeopaaDoor
open Go.RowKit
set_option linter.unusedSimpArgs false
set_option linter.unusedVariables false

/-- The secret of a place and a bit. -/
def pSecret (seed : List UInt8) (index i b : Nat) : List UInt8 := pOf 1 [seed, pBig index 4, pBig i 1, pBig b 1]
def pPublic (s : List UInt8) : List UInt8 := pOf 2 [s]
theorem pSecret_length (seed : List UInt8) (index i b : Nat) : (pSecret seed index i b).length = 32 := pOf_length _ _
theorem pPublic_length (s : List UInt8) : (pPublic s).length = 32 := pOf_length _ _
theorem strsAt_four (w : World) (l0 l1 l2 l3 : List UInt8) (t : TypeId) : StrsAt (w.alloc (.cells #[.string (str l0), .string (str l1), .string (str l2), .string (str l3)] t)) (some ⟨w.heap.size, 0, none⟩) [l0, l1, l2, l3] := by
  refine .inr ⟨w.heap.size, 0, rfl, by simp, fun j hj => ?_⟩
  match j, hj with
  | 0, _ => go_simp
  | 1, _ => go_simp
  | 2, _ => go_simp
  | 3, _ => go_simp
  | j + 4, hj => simp at hj; omega
set_option maxHeartbeats 2000000 in
set_option maxRecDepth 100000 in
theorem public_calls (s : List UInt8) (hs : s.length = 32) (w : World) (tabs : Tabs w) :
    Calls Tryd.prog 30 #[.pointer none, .agg (bc s)] w fun e w' => e = .returned (.agg (bc (pPublic s))) ∧ Below w.heap.size w w' := by
  have co := fun g w hs tabs => ofNil_calls 2 (by decide) [s] (by simp; omega) (by simp) (some ⟨g, 0, none⟩) 1 w hs tabs
  have hi0 := digInfo s hs
  have hi1 := digInfo (pPublic s) (pPublic_length s)
  have hz1 := zeroSize (pPublic s) (pPublic_length s)
  have ho1 := bc_oneCell (pPublic s)
  have cd := fun w => wdigest_calls s hs w
  have e2 : pOf 2 [s] = pPublic s := rfl
  rw [e2] at co
  generalize pPublic s = D at *
  have CO := hide co
  have CD := hide cd
  have HT := hide tabs
  clear co cd tabs e2
  go_enter Tryd.func30, Tryd.ntmps30
  go_wp2_with (refine wpList_load_row rfl 23 (.tmp 3) rfl w.heap.size rfl 23 _ (0, 0) _ ((Below.heap_alloc _ _ _ (by simp)).trans (al1 w (.cells (bc s) 23))) Tryd.underlying23 rfl hi0 ?_)
  have hb0 : Below w.heap.size w ((w.alloc (.cells (bc s) 23)).alloc (.cells (bc (List.replicate 32 0)) 23)) := ((Below.refl _ w).alloc (Nat.le_refl _) _).alloc (by simp) _
  have q0 : ((w.alloc (.cells (bc s) 23)).alloc (.cells (bc (List.replicate 32 0)) 23)).heap[w.heap.size + 1]? = some (.cells (bc (List.replicate 32 0)) 23 (0, 0)) := by
    have := al1 (w.alloc (.cells (bc s) 23)) (.cells (bc (List.replicate 32 0)) 23); rwa [World.size_alloc] at this
  refine (unhide CD _).mono ?_
  rintro e w1 ⟨rfl, b1⟩
  have q1 := Below.at b1 (by simp) q0
  have hb1 : Below w.heap.size w w1 := hb0.trans (b1.mono (by simp; omega))
  have z1 : w.heap.size + 1 < w1.heap.size := by have := b1.size; simp at this; omega
  clear hb0 b1 q0
  go_wp2_with fail
  refine (unhide CO _ _ (strsAt_one w1 s _) (((unhide HT).below hb1 (Nat.le_refl _)).below' ((Below.refl _ w1).alloc (Nat.le_refl _) _))).mono ?_
  rintro e w2 ⟨rfl, b2⟩
  have q2 := Below.at b2 (by simp; omega) ((Below.heap_alloc w1 (.cells #[.string (str s)] 9) _ z1).trans q1)
  have hb2 : Below w.heap.size w w2 := (hb1.alloc (by omega) _).trans (b2.mono (by simp; omega))
  clear q1 hb1 b2
  go_wp2_with (refine wpList_store_row rfl 23 (.tmp 4) (.tmp 9) rfl (w.heap.size + 1) _ rfl rfl 23 _ q2 hi1 hz1 ho1 ?_)
  exact bodyPost_ret (results_cell_row rfl _ _ (w.heap.size + 1) _ _ _ _ rfl (setRow_heap _ _ _ _ _ _ q2) Tryd.underlying23 rfl hi1) rfl ⟨rfl, below_setRow hb2 (by omega) _⟩
set_option maxHeartbeats 2000000 in
set_option maxRecDepth 100000 in
theorem secret_calls (seed : List UInt8) (hs : seed.length = 32) (x : Int) (index i b : Nat) (hx : x % 4294967296 = (index : Int)) (hi : i < 256) (hb : b < 256) (w : World) (tabs : Tabs w) :
    Calls Tryd.prog 31 #[.pointer none, .agg (bc seed), .int .i64 x, .int .i64 (i : Int), .int .i64 (b : Int)] w fun e w' => e = .returned (.agg (bc (pSecret seed index i b))) ∧ Below w.heap.size w w' := by
  have hpb := pBig_length
  have co := fun g w hs tabs => ofNil_calls 1 (by decide) [seed, pBig index 4, pBig i 1, pBig b 1] (by simp [hpb]; omega) (by simp) (some ⟨g, 0, none⟩) 4 w hs tabs
  have hi0 := digInfo seed hs
  have hi1 := digInfo (pSecret seed index i b) (pSecret_length _ _ _ _)
  have hz1 := zeroSize (pSecret seed index i b) (pSecret_length _ _ _ _)
  have ho1 := bc_oneCell (pSecret seed index i b)
  have hidx : index < 4294967296 := by omega
  have cd := fun w => wdigest_calls seed hs w
  have cw := fun w => wword_calls index hidx w
  have c1 := fun w => wbyte_calls i hi w
  have c2 := fun w => wbyte_calls b hb w
  have m1 : (i : Int) % 256 = (i : Int) := by omega
  have m2 : (b : Int) % 256 = (b : Int) := by omega
  have e2 : pOf 1 [seed, pBig index 4, pBig i 1, pBig b 1] = pSecret seed index i b := rfl
  rw [e2] at co
  generalize pSecret seed index i b = D at *
  generalize pBig index 4 = B4 at *
  generalize pBig i 1 = B1 at *
  generalize pBig b 1 = B2 at *
  have CO := hide co
  have CD := hide cd
  have CW := hide cw
  have C1 := hide c1
  have C2 := hide c2
  have HT := hide tabs
  clear co cd cw c1 c2 tabs e2 hpb
  go_enter Tryd.func31, Tryd.ntmps31
  go_wp2_with (refine wpList_load_row rfl 23 (.tmp 6) rfl w.heap.size rfl 23 _ (0, 0) _ ((Below.heap_alloc _ _ _ (by simp)).trans (al1 w (.cells (bc seed) 23))) Tryd.underlying23 rfl hi0 ?_)
  have hb0 : Below w.heap.size w ((w.alloc (.cells (bc seed) 23)).alloc (.cells (bc (List.replicate 32 0)) 23)) := ((Below.refl _ w).alloc (Nat.le_refl _) _).alloc (by simp) _
  have q0 : ((w.alloc (.cells (bc seed) 23)).alloc (.cells (bc (List.replicate 32 0)) 23)).heap[w.heap.size + 1]? = some (.cells (bc (List.replicate 32 0)) 23 (0, 0)) := by
    have := al1 (w.alloc (.cells (bc seed) 23)) (.cells (bc (List.replicate 32 0)) 23); rwa [World.size_alloc] at this
  refine (unhide CD _).mono ?_
  rintro e w1 ⟨rfl, b1⟩
  have q1 := Below.at b1 (by simp) q0
  have hb1 : Below w.heap.size w w1 := hb0.trans (b1.mono (by simp; omega))
  have z1 : w.heap.size + 1 < w1.heap.size := by have := b1.size; simp at this; omega
  clear hb0 b1 q0
  go_wp2_with fail
  refine (unhide CW _).mono ?_
  rintro e w2 ⟨rfl, b2⟩
  have q2 := Below.at b2 z1 q1
  have hb2 := hb1.trans (b2.mono (by omega))
  have z2 : w.heap.size + 1 < w2.heap.size := Nat.lt_of_lt_of_le z1 b2.size
  clear hb1 b2 q1 z1
  go_wp2_with fail
  refine (unhide C1 _).mono ?_
  rintro e w3 ⟨rfl, b3⟩
  have q3 := Below.at b3 z2 q2
  have hb3 := hb2.trans (b3.mono (by omega))
  have z3 : w.heap.size + 1 < w3.heap.size := Nat.lt_of_lt_of_le z2 b3.size
  clear hb2 b3 q2 z2
  go_wp2_with fail
  refine (unhide C2 _).mono ?_
  rintro e w4 ⟨rfl, b4⟩
  have q4 := Below.at b4 z3 q3
  have hb4 := hb3.trans (b4.mono (by omega))
  have z4 : w.heap.size + 1 < w4.heap.size := Nat.lt_of_lt_of_le z3 b4.size
  clear hb3 b4 q3 z3
  go_wp2_with fail
  refine (unhide CO _ _ (strsAt_four w4 seed B4 B1 B2 _) (((unhide HT).below hb4 (Nat.le_refl _)).below' ((Below.refl _ w4).alloc (Nat.le_refl _) _))).mono ?_
  rintro e w5 ⟨rfl, b5⟩
  have q5 := Below.at b5 (by simp; omega) ((Below.heap_alloc w4 (.cells #[.string (str seed), .string (str B4), .string (str B1), .string (str B2)] 9) _ z4).trans q4)
  have hb5 : Below w.heap.size w w5 := (hb4.alloc (by omega) _).trans (b5.mono (by simp; omega))
  clear q4 hb4 b5
  go_wp2_with (refine wpList_store_row rfl 23 (.tmp 10) (.tmp 24) rfl (w.heap.size + 1) _ rfl rfl 23 _ q5 hi1 hz1 ho1 ?_)
  exact bodyPost_ret (results_cell_row rfl _ _ (w.heap.size + 1) _ _ _ _ rfl (setRow_heap _ _ _ _ _ _ q5) Tryd.underlying23 rfl hi1) rfl ⟨rfl, below_setRow hb5 (by omega) _⟩
end Go.Proofs.YtonmccmeljeopaaDoor

namespace Go.Proofs.YtonmccmeljeopaaDoor
open Go.RowKit
set_option linter.unusedSimpArgs false
set_option linter.unusedVariables false

def pBit (d : List UInt8) (i : Nat) : Nat := (d.getD (i / 8) 0).toNat / 2 ^ (7 - i % 8) % 2
theorem pBit_lt (d : List UInt8) (i : Nat) : pBit d i < 2 := Nat.mod_lt _ (by decide)
theorem and_one : ∀ v : Nat, v < 256 → bits .and .u8 (v : Int) 1 = ((v % 2 : Nat) : Int) := by decide +kernel
set_option maxHeartbeats 2000000 in
set_option maxRecDepth 100000 in
theorem bit_calls (d : List UInt8) (hd : d.length = 32) (i : Nat) (hi : i < 256) (w : World) :
    Calls Tryd.prog 38 #[.agg (bc d), .int .i64 (i : Int)] w fun e w' => e = .returned (.int .i64 ((pBit d i : Nat) : Int)) ∧ Below w.heap.size w w' := by
  have hq : i / 8 < 32 := by omega
  have hr : i % 8 < 8 := by omega
  have e1 : (i : Int).tdiv 8 = ((i / 8 : Nat) : Int) := by
    rw [Int.tdiv_eq_ediv_of_nonneg (by omega)]; rfl
  have e2 : (i : Int).tmod 8 = ((i % 8 : Nat) : Int) := by
    rw [Int.tmod_eq_emod_of_nonneg (by omega)]; rfl
  have g0 : decide ((i : Int) < 0) = false := by simp
  have g1 : decide ((256 : Int) ≤ (i : Int)) = false := by simp; omega
  have hc : (w.alloc (.cells (bc d) 23)).cell? ⟨w.heap.size, i / 8, none⟩ = some (.int .u8 ((d.getD (i / 8) 0).toNat : Int)) := by
    rw [cell_of_row _ _ _ _ _ _ (al1 w (.cells (bc d) 23)), bc_at _ _ (by omega)]
  unfold pBit
  have hv := (d.getD (i / 8) 0).toNat_lt
  generalize (d.getD (i / 8) 0).toNat = v at *
  generalize i / 8 = q at *
  generalize i % 8 = r at *
  obtain ⟨s, es⟩ : ∃ s : Nat, Hid (7 - r = s) := ⟨_, hide rfl⟩
  have e3 : (7 : Int) - (r : Int) = (s : Int) := by have := unhide es; omega
  rw [unhide es]
  have hs : s < 8 := by have := unhide es; omega
  have hvs : v / 2 ^ s < 256 := Nat.lt_of_le_of_lt (Nat.div_le_self _ _) (by omega)
  have ha := and_one (v / 2 ^ s) hvs
  have h5 : (v : Int) / 2 ^ s = ((v / 2 ^ s : Nat) : Int) := by simp
  rw [← h5] at ha
  have HA := hide ha
  have hv8 : v < 256 := by omega
  clear es hvs h5 ha hv
  go_enter Tryd.func38, Tryd.ntmps38
  go_wp2
  go_ret
  have hm : v / 2 ^ s % 2 < 2 := Nat.mod_lt _ (by decide)
  refine ⟨?_, (Below.refl _ _).alloc (Nat.le_refl _) _⟩
  rw [unhide HA]
  generalize v / 2 ^ s % 2 = m at *
  rw [show wrap64 (m : Int) = (m : Int) by unfold wrap64; omega]
  rfl
end Go.Proofs.YtonmccmeljeopaaDoor

namespace Go.Proofs.YtonmccmeljeopaaDoor
open Go.RowKit
set_option linter.unusedSimpArgs false
set_option linter.unusedVariables false

/-- The word of publics, of all their bytes. -/
def pWordOf (L : List UInt8) : List UInt8 := pOf 3 [L]
theorem bc_extract (L : List UInt8) (o n : Nat) : (bc L).extract o (o + n) = bc ((L.drop o).take n) := by
  unfold bc Lib.byteCells
  simp [List.map_take, List.map_drop, List.extract_eq_take_drop]
theorem index_pair (L : List UInt8) (k : Nat) (hk : k < 32) (w : World) : (Instr.index 68 (.agg (bc L)) (.int .i64 (k : Int))).run Tryd.prog w = .ok (.agg (bc ((L.drop (64 * k)).take 64))) w := by
  have h1 : (isAgg 66).run Tryd.prog w = .ok true w := Tryd.isAgg66 w
  have h2 : (sizeOf 66).run Tryd.prog w = .ok 64 w := Tryd.sizeOf66 w
  have e := bc_extract L (64 * k) 64
  simp [Instr.index, asIntOf, run_underlying Tryd.underlying68, hk, part, h1, h2]
  rw [Nat.mul_comm k 64]; exact e
theorem index_one (L : List UInt8) (k : Nat) (hk : k < 2) (w : World) : (Instr.index 66 (.agg (bc L)) (.int .i64 (k : Int))).run Tryd.prog w = .ok (.agg (bc ((L.drop (32 * k)).take 32))) w := by
  have h1 : (isAgg 23).run Tryd.prog w = .ok true w := Tryd.isAgg23 w
  have h2 : (sizeOf 23).run Tryd.prog w = .ok 32 w := Tryd.sizeOf23 w
  have e := bc_extract L (32 * k) 32
  simp [Instr.index, asIntOf, run_underlying Tryd.underlying66, hk, part, h1, h2]
  rw [Nat.mul_comm k 32]; exact e
theorem pubsInfo (l : List UInt8) (h : l.length = 2048) : (Tryd.prog.info? 68).map (·.size) = some (bc l).size := by rw [bc_size, h]; kernel_rfl
theorem pairInfo (l : List UInt8) (h : l.length = 64) : (Tryd.prog.info? 66).map (·.size) = some (bc l).size := by rw [bc_size, h]; kernel_rfl
theorem zeroSize64 (l : List UInt8) (h : l.length = 64) : (bc (List.replicate 64 (0 : UInt8))).size = (bc l).size := by rw [bc_size, bc_size, h]; rfl
theorem take_chunk (L : List UInt8) (a n : Nat) : L.take (a + n) = L.take a ++ (L.drop a).take n := List.take_add
set_option maxHeartbeats 4000000 in
set_option maxRecDepth 100000 in
theorem wordOf_calls (L : List UInt8) (hL : L.length = 2048) (w : World) (tabs : Tabs w) :
    Calls Tryd.prog 32 #[.agg (bc L), .pointer none] w fun e w' => e = .returned (.agg (bc (pWordOf L))) ∧ Below w.heap.size w w' := by
  have co := fun g w hs tabs => ofNil_calls 3 (by decide) [L] (by simp; omega) (by simp) (some ⟨g, 0, none⟩) 1 w hs tabs
  have hD := pOf_length 3 [L]
  have hi1 := digInfo (pOf 3 [L]) hD
  have hz1 := zeroSize (pOf 3 [L]) hD
  have ho1 := bc_oneCell (pOf 3 [L])
  have hiL := pubsInfo L hL
  show Calls _ _ _ _ fun e w' => e = .returned (.agg (bc (pOf 3 [L]))) ∧ _
  generalize pOf 3 [L] = D at *
  have CO := hide co
  have HT := hide tabs
  clear co tabs
  go_enter Tryd.func32, Tryd.ntmps32
  have hA := al2 w (.cells (bc L) 68) (.cells (bc (List.replicate 32 0)) 23)
  have hbA := bel2 w (.cells (bc L) 68) (.cells (bc (List.replicate 32 0)) 23)
  have hbld := Lib.IsBuilderF.of (Lib.fresh_isBuilder 85 5 ((w.alloc (.cells (bc L) 68)).alloc (.cells (bc (List.replicate 32 0)) 23)))
  go_wp2_with (refine wpList_load_row rfl 68 (.tmp 2) rfl w.heap.size rfl 68 _ (0, 0) _ ((Below.heap_alloc _ _ _ (by simp; omega)).trans hA.1) Tryd.underlying68 rfl hiL ?_)
  have hszX : ((w.alloc (.cells (bc L) 68)).alloc (.cells (bc (List.replicate 32 0)) 23)).heap.size = w.heap.size + 1 + 1 := by simp
  have hb00 := (Below.refl ((w.alloc (.cells (bc L) 68)).alloc (.cells (bc (List.replicate 32 0)) 23)).heap.size ((w.alloc (.cells (bc L) 68)).alloc (.cells (bc (List.replicate 32 0)) 23))).alloc (Nat.le_refl _) (.cells #[.pointer none, .slice none 0 0] 85)
  rw [hszX] at hbld hb00
  generalize hX : ((w.alloc (.cells (bc L) 68)).alloc (.cells (bc (List.replicate 32 0)) 23)) = X at hbld hb00 hA hbA hszX
  have hq0 := hA.2
  have HbX := hide hbA
  have hb0' := hide hb00
  have hbld' := hide hbld
  have HQ0 := hide hq0
  have HszX := hide hszX
  have HX := hide hX
  clear hA hbA hb00 hbld hq0 hX hszX
  go_loopw [7, 9, 11] (fun _ _ i wr => ∃ k : Nat, k ≤ 32 ∧ i = .int .i64 (k : Int) ∧ Lib.IsBuilderF 85 5 (w.heap.size + 1 + 1) (w.heap.size + 1 + 1) (Lib.byteCells (L.take (64 * k))) wr ∧ Below (w.heap.size + 1 + 1) X wr) (fun _ _ i _ => 32 - (intOf i).toNat)
  case atStart =>
    have h1 := unhide hbld'
    have h2 := unhide hb0'
    rw [← unhide HX] at h1
    rw [← unhide HX] at h2 ⊢
    exact ⟨0, by omega, rfl, by rw [Nat.mul_zero, List.take_zero]; exact h1, h2⟩
  case round =>
    clear hb0' hbld'
    obtain ⟨k, hk, rfl, hB, hb⟩ := hrel
    have hzw : w.heap.size + 1 + 1 ≤ wr.heap.size := by have := hb.size; rw [unhide HszX] at this; exact this
    by_cases hlt : k < 32
    · have hd1 : decide ((k : Int) < 32) = true := by simp; omega
      have hix := fun w => index_pair L k hlt w
      have hC : ((L.drop (64 * k)).take 64).length = 64 := by rw [List.length_take, List.length_drop]; omega
      have hsub : ∀ j, j < 2 → L.take (64 * k + 32 * (j + 1)) = L.take (64 * k + 32 * j) ++ ((((L.drop (64 * k)).take 64).drop (32 * j)).take 32) := fun j hj => by
        rw [show 64 * k + 32 * (j + 1) = (64 * k + 32 * j) + 32 by omega, take_chunk, List.drop_take, List.drop_drop, List.take_take, Nat.min_eq_left (by omega)]
      generalize hCC : (L.drop (64 * k)).take 64 = C at *
      have hi2 := pairInfo C hC
      have ho2 := bc_oneCell C
      have hz2 := zeroSize64 C hC
      have Hsub := hide hsub
      have Hix := hide hix
      clear hsub hCC
      have hix := unhide Hix
      go_wp2_with (first
        | (refine wpList_store_row rfl 66 (.tmp 7) (.tmp 13) rfl wr.heap.size _ rfl rfl 66 _ (al1 _ _) hi2 hz2 ho2 ?_)
        | (refine wpList_load_row rfl 66 (.tmp 7) rfl wr.heap.size rfl 66 _ (0, 0) _ (setRow_heap _ _ _ (bc C) _ _ (al1 wr (.cells (bc (List.replicate 64 0)) 66))) Tryd.underlying66 rfl hi2 ?_))
      have hw1 := below_setRow ((Below.refl wr.heap.size wr).alloc (Nat.le_refl _) (.cells (bc (List.replicate 64 0)) 66)) (Nat.le_refl _) (bc C)
      have hB1 := hide (isBuilder_below hB hw1)
      have hb1 := hide (hb.trans (hw1.mono hzw))
      clear hix hw1 hi2 ho2 hz2
      go_loopw [9, 15] (fun _ b wr2 => ∃ j : Nat, j ≤ 2 ∧ b = .int .i64 (j : Int) ∧ Lib.IsBuilderF 85 5 (w.heap.size + 1 + 1) (w.heap.size + 1 + 1) (Lib.byteCells (L.take (64 * k + 32 * j))) wr2 ∧ Below (w.heap.size + 1 + 1) X wr2) (fun _ b _ => 2 - (intOf b).toNat)
      case atStart => exact ⟨0, by omega, rfl, by rw [Nat.mul_zero, Nat.add_zero]; exact unhide hB1, unhide hb1⟩
      case round =>
        clear hB1 hb1 hB hb hzw
        obtain ⟨j, hj, rfl, hB, hb⟩ := hrel
        have hzw : w.heap.size + 1 + 1 ≤ wr.heap.size := by have := hb.size; rw [unhide HszX] at this; exact this
        by_cases hjl : j < 2
        · have hd2 : decide ((j : Int) < 2) = true := by simp; omega
          have hix := fun w => index_one C j hjl w
          have hE : ((C.drop (32 * j)).take 32).length = 32 := by rw [List.length_take, List.length_drop]; omega
          have hnew := unhide Hsub j hjl
          have hlen : (L.take (64 * k + 32 * j)).length ≤ 2048 := by rw [List.length_take]; omega
          generalize (C.drop (32 * j)).take 32 = E at *
          generalize L.take (64 * k + 32 * j) = acc at *
          have hi2 := digInfo E hE
          have ho2 := bc_oneCell E
          have hz2 := zeroSize E hE
          have cE := fun w => wdigest_calls E hE w
          have Hnew := hide hnew
          clear hnew
          go_wp2_with (first
            | (refine wpList_store_row rfl 23 (.tmp 9) (.tmp 17) rfl wr.heap.size _ rfl rfl 23 _ (al1 _ _) hi2 hz2 ho2 ?_)
            | (refine wpList_load_row rfl 23 (.tmp 9) rfl wr.heap.size rfl 23 _ (0, 0) _ (setRow_heap _ _ _ (bc E) _ _ (al1 wr (.cells (bc (List.replicate 32 0)) 23))) Tryd.underlying23 rfl hi2 ?_))
          have hw1 := below_setRow ((Below.refl wr.heap.size wr).alloc (Nat.le_refl _) (.cells (bc (List.replicate 32 0)) 23)) (Nat.le_refl _) (bc E)
          have hB1 := isBuilder_below hB hw1
          have hb1 := hb.trans (hw1.mono hzw)
          refine (cE _).mono ?_
          rintro e w3 ⟨rfl, b3⟩
          have hB3 := isBuilder_below hB1 b3
          have hz3 : w.heap.size + 1 + 1 ≤ w3.heap.size := by have := b3.size; rw [setRow_size, World.size_alloc] at this; omega
          have hb3 := hb1.trans (b3.mono (by rw [setRow_size, World.size_alloc]; omega))
          clear hB1 hb1 b3 hw1 hB hb
          go_wp2_with fail
          refine (writeString_calls (w.heap.size + 1 + 1) (w.heap.size + 1 + 1) _ _ _ hB3 (by rw [str_size, Lib.byteCells_length]; omega) hz3).mono ?_
          rintro e w4 ⟨rfl, h4, b4, k4⟩
          rw [strCells_str, ← Lib.byteCells_append] at h4
          go_wp2
          go_roundw
          case rel => exact ⟨j + 1, by omega, by go_num, by rw [unhide Hnew]; exact Or.inr h4, hb3.trans b4⟩
          case measure => simp [intOf]; omega
        · have hd2 : decide ((j : Int) < 2) = false := by simp; omega
          have hj2 : 64 * k + 32 * j = 64 * (k + 1) := by omega
          rw [hj2] at hB
          clear hj2
          go_wp2
          go_roundw
          case rel => exact ⟨k + 1, by omega, by go_num, hB, hb⟩
          case measure => simp [intOf]; omega
    · have hd1 : decide ((k : Int) < 32) = false := by simp; omega
      rw [List.take_of_length_le (by omega)] at hB
      go_wp2_with fail
      refine (string_calls (w.heap.size + 1 + 1) (w.heap.size + 1 + 1) L _ hB hzw).mono ?_
      rintro e w3 ⟨rfl, _, b3, _⟩
      have hb3 := hb.trans b3
      have q3 := Below.at hb3 (by omega) (unhide HQ0)
      have z3 : w.heap.size + 1 + 1 ≤ w3.heap.size := Nat.le_trans hzw b3.size
      have hw3 : Below w.heap.size w w3 := (unhide HbX).trans (hb3.mono (by omega))
      clear hB hb b3 hb3
      go_wp2_with fail
      refine (unhide CO _ _ (strsAt_one w3 L _) (((unhide HT).below hw3 (Nat.le_refl _)).below' ((Below.refl _ w3).alloc (Nat.le_refl _) _))).mono ?_
      rintro e w4 ⟨rfl, b4⟩
      have q4 := Below.at b4 (by simp; omega) ((Below.heap_alloc w3 (.cells #[.string (str L)] 9) _ (by omega)).trans q3)
      have hw4 : Below w.heap.size w w4 := (hw3.alloc (by omega) _).trans (b4.mono (by simp; omega))
      clear q3 hw3 b4
      go_wp2_with (refine wpList_store_row rfl 23 (.tmp 4) (.tmp 26) rfl (w.heap.size + 1) _ rfl rfl 23 _ q4 hi1 hz1 ho1 ?_)
      exact bodyPost_ret (results_cell_row rfl _ _ (w.heap.size + 1) _ _ _ _ rfl (setRow_heap _ _ _ _ _ _ q4) Tryd.underlying23 rfl hi1) rfl ⟨rfl, below_setRow hw4 (by omega) _⟩
end Go.Proofs.YtonmccmeljeopaaDoor

namespace Go.Proofs.YtonmccmeljeopaaDoor
open Go Go.RowKit
set_option linter.unusedSimpArgs false
set_option linter.unusedVariables false

/-- A key's public, by its number: two a place. -/
def pubAt (seed : List UInt8) (index j : Nat) : List UInt8 := pPublic (pSecret seed index (j / 2) (j % 2))
def pubs (seed : List UInt8) (index k : Nat) : List UInt8 := (List.range k).flatMap (pubAt seed index)
def pWord (seed : List UInt8) (index : Nat) : List UInt8 := pWordOf (pubs seed index 64)
theorem flat32 (f : Nat → List UInt8) (hf : ∀ j, (f j).length = 32) (k : Nat) : ((List.range k).flatMap f).length = 32 * k := by
  induction k with
  | zero => rfl
  | succ k ih => rw [List.range_succ, List.flatMap_append, List.length_append, ih]; simp [hf]; omega
theorem pubs_length (seed : List UInt8) (index k : Nat) : (pubs seed index k).length = 32 * k := flat32 _ (fun j => pPublic_length _) k
theorem pubs_succ (seed : List UInt8) (index k : Nat) : pubs seed index (k + 1) = pubs seed index k ++ pubAt seed index k := by
  unfold pubs; rw [List.range_succ, List.flatMap_append]; simp
theorem zero84 : Tryd.zeroCells68 = bc (List.replicate 2048 0) := by kernel_rfl
theorem pubs_put (seed : List UInt8) (index i j : Nat) (hi : i < 32) (hj : j < 2) : putAt (pubs seed index (2 * i + j) ++ List.replicate (2048 - 32 * (2 * i + j)) 0) (i * 64 + j * 32) (pPublic (pSecret seed index i j)) = pubs seed index (2 * i + (j + 1)) ++ List.replicate (2048 - 32 * (2 * i + (j + 1))) 0 := by
  rw [putAt_zeros _ _ _ _ (by rw [pubs_length]; omega) (by rw [pPublic_length]; omega), pPublic_length, show 2 * i + (j + 1) = (2 * i + j) + 1 by omega, pubs_succ]
  have e : pubAt seed index (2 * i + j) = pPublic (pSecret seed index i j) := by
    unfold pubAt
    rw [show (2 * i + j) / 2 = i by omega, show (2 * i + j) % 2 = j by omega]
  rw [e, show 2048 - 32 * (2 * i + j) - 32 = 2048 - 32 * (2 * i + j + 1) by omega]
set_option maxHeartbeats 4000000 in
set_option maxRecDepth 100000 in
theorem word_calls (seed : List UInt8) (hs : seed.length = 32) (x : Int) (index : Nat) (hx : x % 4294967296 = (index : Int)) (w : World) (tabs : Tabs w) :
    Calls Tryd.prog 16 #[.pointer none, .agg (bc seed), .int .i64 x] w fun e w' => e = .returned (.agg (bc (pWord seed index))) ∧ Below w.heap.size w w' := by
  have hW : (pWord seed index).length = 32 := pOf_length _ _
  have hi1 := digInfo (pWord seed index) hW
  have hz1 := zeroSize (pWord seed index) hW
  have ho1 := bc_oneCell (pWord seed index)
  have hi0 := digInfo seed hs
  have cW := fun w tabs => wordOf_calls (pubs seed index 64) (pubs_length _ _ _) w tabs
  have e1 : pWordOf (pubs seed index 64) = pWord seed index := rfl
  rw [e1] at cW
  have hiP := pubsInfo (pubs seed index 64) (pubs_length _ _ _)
  have cS := fun i b hi hb w tabs => secret_calls seed hs x index i b hx hi hb w tabs
  have HPut := hide (pubs_put seed index)
  generalize pWord seed index = D at *
  have HT := hide tabs
  have HiP := hide hiP
  have CW := hide cW
  have CS := hide cS
  have hA := al2 w (.cells (bc seed) 23) (.cells (bc (List.replicate 32 0)) 23)
  have hbA := bel2 w (.cells (bc seed) 23) (.cells (bc (List.replicate 32 0)) 23)
  have hsX : ((w.alloc (.cells (bc seed) 23)).alloc (.cells (bc (List.replicate 32 0)) 23)).heap.size = w.heap.size + 1 + 1 := by simp
  have HA := hide hA
  have HbA := hide hbA
  have HsX := hide hsX
  clear tabs hiP cW cS e1 hA hbA hsX
  go_enter Tryd.func16, Tryd.ntmps16
  go_wp2
  rw [zero84]
  go_loopw [8, 9, 10] (fun _ _ i wr => ∃ k : Nat, k ≤ 32 ∧ i = .int .i64 (k : Int) ∧ wr.heap[w.heap.size + 1 + 1]? = some (.cells (bc (pubs seed index (2 * k) ++ List.replicate (2048 - 32 * (2 * k)) 0)) 68 (0, 0)) ∧ Below (w.heap.size + 1 + 1) ((w.alloc (.cells (bc seed) 23)).alloc (.cells (bc (List.replicate 32 0)) 23)) wr) (fun _ _ i _ => 32 - (intOf i).toNat)
  case atStart =>
    refine ⟨0, by omega, rfl, ?_, ?_⟩
    · have := al1 ((w.alloc (.cells (bc seed) 23)).alloc (.cells (bc (List.replicate 32 0)) 23)) (.cells (bc (List.replicate 2048 0)) 68)
      rw [unhide HsX] at this
      exact this
    · have := (Below.refl ((w.alloc (.cells (bc seed) 23)).alloc (.cells (bc (List.replicate 32 0)) 23)).heap.size ((w.alloc (.cells (bc seed) 23)).alloc (.cells (bc (List.replicate 32 0)) 23))).alloc (Nat.le_refl _) (.cells (bc (List.replicate 2048 0)) 68)
      rw [unhide HsX] at this
      exact this
  case round =>
    obtain ⟨k, hk, rfl, q, hb⟩ := hrel
    by_cases hlt : k < 32
    · have hd1 : decide ((k : Int) < 32) = true := by simp; omega
      have Q := hide q
      have HB := hide hb
      clear q hb
      go_wp2
      go_loopw [9, 13] (fun _ b wr2 => ∃ j : Nat, j ≤ 2 ∧ b = .int .i64 (j : Int) ∧ wr2.heap[w.heap.size + 1 + 1]? = some (.cells (bc (pubs seed index (2 * k + j) ++ List.replicate (2048 - 32 * (2 * k + j)) 0)) 68 (0, 0)) ∧ Below (w.heap.size + 1 + 1) ((w.alloc (.cells (bc seed) 23)).alloc (.cells (bc (List.replicate 32 0)) 23)) wr2) (fun _ b _ => 2 - (intOf b).toNat)
      case atStart => exact ⟨0, by omega, rfl, unhide Q, unhide HB⟩
      case round =>
        clear Q HB
        obtain ⟨j, hj, rfl, q, hb⟩ := hrel
        by_cases hjl : j < 2
        · have hd2 : decide ((j : Int) < 2) = true := by simp; omega
          have hput := unhide HPut k j hlt hjl
          have hll : (pubs seed index (2 * k + j) ++ List.replicate (2048 - 32 * (2 * k + j)) 0).length = 2048 := by
            rw [List.length_append, pubs_length, List.length_replicate]; omega
          have hw : Below w.heap.size w wr := (unhide HbA).trans (hb.mono (by omega))
          have tb := (unhide HT).below hw (Nat.le_refl _)
          have hz : w.heap.size + 1 + 1 < wr.heap.size := (Array.getElem?_eq_some_iff.1 q).1
          have kS : Hid (∀ dd os, Calls Tryd.prog 31 #[.pointer none, .agg (bc seed), .int .i64 x, .int .i64 (k : Int), .int .i64 (j : Int)] (Sort.grow (redrawn wr dd) os) fun e w'' => e = .returned (.agg (bc (pSecret seed index k j))) ∧ ∃ p : Regrown, w'' = Sort.grow (redrawn wr p.d) p.os) := fun dd os => Calls.regrown_of (unhide CS k j (by omega) (by omega) _ (tb.below (below_regrown wr dd os) (Nat.le_refl _)))
          have kP : Hid (∀ dd os, Calls Tryd.prog 30 #[.pointer none, .agg (bc (pSecret seed index k j))] (Sort.grow (redrawn wr dd) os) fun e w'' => e = .returned (.agg (bc (pPublic (pSecret seed index k j)))) ∧ ∃ p : Regrown, w'' = Sort.grow (redrawn wr p.d) p.os) := fun dd os => Calls.regrown_of (public_calls _ (pSecret_length _ _ _ _) _ (tb.below (below_regrown wr dd os) (Nat.le_refl _)))
          have q0 := Below.at hb (by omega) (unhide HA).1
          have rowD : Hid (∀ w', (∃ p : Regrown, w' = Sort.grow (redrawn wr p.d) p.os) → w'.heap[w.heap.size]? = some (.cells (bc seed) 23 (0, 0))) := fun w' ⟨p, hp⟩ => by
            rw [hp]; exact Below.at (below_regrown wr p.d p.os) (by omega) q0
          have hDl : (pPublic (pSecret seed index k j)).length = 32 := pPublic_length _
          have hi2 := digInfo (pPublic (pSecret seed index k j)) hDl
          generalize pPublic (pSecret seed index k j) = PD at *
          generalize pSecret seed index k j = SD at *
          generalize pubs seed index (2 * k + j) ++ List.replicate (2048 - 32 * (2 * k + j)) 0 = L at *
          have b1 : (0 : Int) ≤ k ∧ (k : Int) < 32 := by omega
          have b2 : (0 : Int) ≤ j ∧ (j : Int) < 2 := by omega
          have Q := hide q
          have HB := hide hb
          have HPt := hide hput
          clear q hb hput tb hw q0
          go_wp2_with fail
          refine wp_region_below_tail 12 mixed (by kernel_rfl) ?_
          simp only [List.take_succ_cons, List.take_zero, List.drop_succ_cons, List.drop_zero]
          quiet_step (fail)
          quiet_step (fail)
          quiet_step (fail)
          quiet_step (fail)
          refine wpQuiet_load_row rfl 23 (.tmp 4) rfl w.heap.size rfl 23 _ (0, 0) _ (unhide rowD) Tryd.underlying23 rfl hi0 ?_
          quiet_step (fail)
          quiet_step (fail)
          quiet_step (fail)
          quiet_step (exact unhide kS _ _)
          quiet_step (exact unhide kP _ _)
          quiet_step (fail)
          quiet_step (fail)
          refine wpQuiet_nil ?_
          intro w3 hb3
          have q3 := Below.at hb3 hz (unhide Q)
          have hb5 := (unhide HB).trans (hb3.mono (Nat.le_of_lt hz))
          clear hb3
          go_wp2_with (refine wpList_store_at rfl 23 (.tmp 27) (.tmp 25) rfl (w.heap.size + 1 + 1) (k * 64 + j * 32) L PD 68 rfl rfl q3 (by rw [hDl, hll]; omega) hi2 ?_; intro w4 q4 ho4 hs4 hb4)
          rw [unhide HPt] at q4
          have hb6 := hb5.trans (hb4 _ (Nat.le_refl _))
          have Q4 := hide q4
          have HB6 := hide hb6
          clear q4 ho4 hs4 hb4 hb5 q3 hb6
          go_wp2
          go_roundw
          case rel => exact ⟨j + 1, by omega, by go_num, unhide Q4, unhide HB6⟩
          case measure => simp [intOf]; omega
        · have hd2 : decide ((j : Int) < 2) = false := by simp; omega
          have hj2 : j = 2 := by omega
          subst hj2
          have Q := hide q
          have HB := hide hb
          clear q hb
          go_wp2
          go_roundw
          case rel => exact ⟨k + 1, by omega, by go_num, unhide Q, unhide HB⟩
          case measure => simp [intOf]; omega
    · have hd1 : decide ((k : Int) < 32) = false := by simp; omega
      have hk32 : k = 32 := by omega
      subst hk32
      have ee : pubs seed index (2 * 32) ++ List.replicate (2048 - 32 * (2 * 32)) 0 = pubs seed index 64 := by simp
      rw [ee] at q
      have hiP := unhide HiP
      have cW := unhide CW
      have hw : Below w.heap.size w wr := (unhide HbA).trans (hb.mono (by omega))
      have tb := (unhide HT).below hw (Nat.le_refl _)
      have hz : w.heap.size + 1 + 1 < wr.heap.size := (Array.getElem?_eq_some_iff.1 q).1
      have q1 := Below.at hb (by omega) (unhide HA).2
      generalize pubs seed index 64 = L at *
      have CW2 := hide cW
      clear hb ee CW cW CS HPut
      go_wp2_with (refine wpList_load_row rfl 68 (.tmp 7) rfl (w.heap.size + 1 + 1) rfl 68 _ (0, 0) _ q Tryd.underlying68 rfl hiP ?_)
      refine (unhide CW2 _ tb).mono ?_
      rintro e w3 ⟨rfl, b3⟩
      have q3 := Below.at b3 (by omega) q1
      have hw3 := hw.trans (b3.mono (by omega))
      clear b3 q1 q tb
      go_wp2_with (refine wpList_store_row rfl 23 (.tmp 6) (.tmp 32) rfl (w.heap.size + 1) _ rfl rfl 23 _ q3 hi1 hz1 ho1 ?_)
      exact bodyPost_ret (results_cell_row rfl _ _ (w.heap.size + 1) _ _ _ _ rfl (setRow_heap _ _ _ _ _ _ q3) Tryd.underlying23 rfl hi1) rfl ⟨rfl, below_setRow hw3 (by omega) _⟩
end Go.Proofs.YtonmccmeljeopaaDoor
