/-
  WHAT digest's Two AND merkle's node RETURN, where there is no log.
-/
import Derived.Test.YtcmfahibdkflaaaDoorDigIn
import Derived.Test.YtcmfahibdkflaaaDoorWireDig
import Derived.Test.YtcmfahibdkflaaaDoorQuietRow
import Derived.Test.YtcmfahibdkflaaaDoorQuietHead
namespace Go.Proofs.YtcmfahibdkflaaaDoor
open Go Go.RowKit
set_option linter.unusedSimpArgs false
set_option linter.unusedVariables false

/-- The digest of two digests, of the domain Node. -/
def pNode (a b : List UInt8) : List UInt8 := pOf 6 [a, b]
theorem pNode_length (a b : List UInt8) : (pNode a b).length = 32 := pOf_length _ _
theorem strsAt_two (w : World) (l0 l1 : List UInt8) (t : TypeId) : StrsAt (w.alloc (.cells #[.string (str l0), .string (str l1)] t)) (some ⟨w.heap.size, 0, none⟩) [l0, l1] := by
  refine .inr ⟨w.heap.size, 0, rfl, by simp, fun j hj => ?_⟩
  match j, hj with
  | 0, _ => go_simp
  | 1, _ => go_simp
  | j + 2, hj => simp at hj; omega
set_option maxHeartbeats 2000000 in
set_option maxRecDepth 100000 in
theorem two_calls (a b : List UInt8) (ha : a.length = 32) (hb : b.length = 32) (w : World) (tabs : Tabs w) :
    Calls Tryd.prog 38 #[.pointer none, .int .u8 6, .agg (bc a), .agg (bc b)] w fun e w' => e = .returned (.agg (bc (pNode a b))) ∧ Below w.heap.size w w' := by
  have co := fun g w hs tabs => ofNil_calls 6 (by decide) [a, b] (by simp; omega) (by simp) (some ⟨g, 0, none⟩) 2 w hs tabs
  have hia := digInfo a ha
  have hib := digInfo b hb
  have hi1 := digInfo (pNode a b) (pNode_length a b)
  have hz1 := zeroSize (pNode a b) (pNode_length a b)
  have ho1 := bc_oneCell (pNode a b)
  have ca := fun w => wdigest_calls a ha w
  have cb := fun w => wdigest_calls b hb w
  have e2 : pOf 6 [a, b] = pNode a b := rfl
  rw [e2] at co
  generalize pNode a b = D at *
  have A3 := hide (al3 w (.cells (bc a) 24) (.cells (bc b) 24) (.cells (bc (List.replicate 32 0)) 24))
  have B3 := hide (bel3 w (.cells (bc a) 24) (.cells (bc b) 24) (.cells (bc (List.replicate 32 0)) 24))
  have S3 : Hid ((((w.alloc (.cells (bc a) 24)).alloc (.cells (bc b) 24)).alloc (.cells (bc (List.replicate 32 0)) 24)).heap.size = w.heap.size + 1 + 1 + 1) := hide (by simp)
  generalize hX : ((w.alloc (.cells (bc a) 24)).alloc (.cells (bc b) 24)).alloc (.cells (bc (List.replicate 32 0)) 24) = X at *
  have HX := hide hX
  have CO := hide co
  have HT := hide tabs
  have kA : Hid (∀ dd os, Calls Tryd.prog 43 #[.agg (bc a)] (Sort.grow (redrawn X.drew dd) os) fun e w'' => e = .returned (.string (str a)) ∧ ∃ p : Regrown, w'' = Sort.grow (redrawn X.drew p.d) p.os) := fun dd os => Calls.regrown_of (ca _)
  have kB : Hid (∀ dd os, Calls Tryd.prog 43 #[.agg (bc b)] (Sort.grow (redrawn X.drew dd) os) fun e w'' => e = .returned (.string (str b)) ∧ ∃ p : Regrown, w'' = Sort.grow (redrawn X.drew p.d) p.os) := fun dd os => Calls.regrown_of (cb _)
  have dX : Below X.heap.size X X.drew := ⟨rfl, rfl, rfl, Nat.le_refl _, fun _ _ => rfl⟩
  have s3 := unhide S3
  have R0 : Hid (∀ w', (∃ p : Regrown, w' = Sort.grow (redrawn X.drew p.d) p.os) → w'.heap[w.heap.size]? = some (.cells (bc a) 24 (0, 0))) := fun w' ⟨p, hp⟩ => by
    rw [hp]; exact Below.at (below_regrown X.drew p.d p.os) (by show _ < X.heap.size; omega) (unhide A3).1
  have R1 : Hid (∀ w', (∃ p : Regrown, w' = Sort.grow (redrawn X.drew p.d) p.os) → w'.heap[w.heap.size + 1]? = some (.cells (bc b) 24 (0, 0))) := fun w' ⟨p, hp⟩ => by
    rw [hp]; exact Below.at (below_regrown X.drew p.d p.os) (by show _ < X.heap.size; omega) (unhide A3).2.1
  clear co ca cb tabs e2 s3 dX hX
  go_enter Tryd.func38, Tryd.ntmps38
  go_wp2_with fail
  change Code.wp _ _ _ _ (((w.alloc (.cells (bc a) 24)).alloc (.cells (bc b) 24)).alloc (.cells (bc (List.replicate 32 0)) 24))
  rw [unhide HX]
  refine wp_region_any mixed ?_
  change wpAny _ _ _ _ _ _ _ X.drew
  refine wpAny_take (i := 0) rfl (by kernel_rfl) (by kernel_rfl) (by kernel_rfl) (fun _ _ _ h => h) (.inl ⟨rfl, fun _ => rfl⟩) ?_
  refine wpAny_take (i := 1) rfl (by kernel_rfl) (by kernel_rfl) (by kernel_rfl) (fun _ _ _ h => h) (.inl ⟨rfl, fun _ => rfl⟩) ?_
  refine wpAny_below_head 2 6 (by kernel_rfl) ?_
  simp only [List.take_succ_cons, List.take_zero, List.drop_succ_cons, List.drop_zero]
  refine wpQuiet_load_row rfl 24 (.tmp 6) rfl w.heap.size rfl 24 _ (0, 0) _ (unhide R0) Tryd.underlying24 rfl hia ?_
  quiet_step (exact unhide kA _ _)
  refine wpQuiet_load_row rfl 24 (.tmp 7) rfl (w.heap.size + 1) rfl 24 _ (0, 0) _ (unhide R1) Tryd.underlying24 rfl hib ?_
  quiet_step (exact unhide kB _ _)
  refine wpQuiet_nil ?_
  intro w2 hb2
  have hb2' : Below X.heap.size X w2 := ⟨hb2.os, hb2.tape, hb2.output, hb2.size, hb2.block⟩
  have s3 := unhide S3
  have q2 := Below.at hb2' (by omega) (unhide A3).2.2
  have hbw : Below w.heap.size w w2 := (unhide B3).trans (hb2'.mono (by omega))
  have z2 : w.heap.size + 1 + 1 < w2.heap.size := by have := hb2'.size; omega
  have HB := hide hbw
  have Q2 := hide q2
  have Z2 := hide z2
  clear hb2 hb2' s3 q2 hbw z2
  refine wpAny_rest 6 (by kernel_rfl) ?_
  simp only [List.drop_succ_cons, List.drop_zero]
  go_wp2_with fail
  refine (unhide CO _ _ (strsAt_two w2 a b _) (((unhide HT).below (unhide HB) (Nat.le_refl _)).below' ((Below.refl _ w2).alloc (Nat.le_refl _) _))).mono ?_
  rintro e w3 ⟨rfl, b3⟩
  have q3 := Below.at b3 (by have := unhide Z2; simp; omega) ((Below.heap_alloc w2 (.cells #[.string (str a), .string (str b)] 9) _ (unhide Z2)).trans (unhide Q2))
  have hb3 : Below w.heap.size w w3 := ((unhide HB).alloc (by have := unhide Z2; omega) _).trans (b3.mono (by have := unhide Z2; simp; omega))
  have Q3 := hide q3
  have HB3 := hide hb3
  clear b3 q3 hb3
  go_wp2_with (refine wpList_store_row rfl 24 (.tmp 8) (.tmp 16) rfl (w.heap.size + 1 + 1) _ rfl rfl 24 _ (unhide Q3) hi1 hz1 ho1 ?_)
  exact bodyPost_ret (results_cell_row rfl _ _ (w.heap.size + 1 + 1) _ _ _ _ rfl (setRow_heap _ _ _ _ _ _ (unhide Q3)) Tryd.underlying24 rfl hi1) rfl ⟨rfl, below_setRow (unhide HB3) (by omega) _⟩
set_option maxHeartbeats 1000000 in
set_option maxRecDepth 100000 in
theorem node_calls (a b : List UInt8) (ha : a.length = 32) (hb : b.length = 32) (w : World) (tabs : Tabs w) :
    Calls Tryd.prog 29 #[.pointer none, .agg (bc a), .agg (bc b)] w fun e w' => e = .returned (.agg (bc (pNode a b))) ∧ Below w.heap.size w w' := by
  have co := fun w tabs => two_calls a b ha hb w tabs
  have hia := digInfo a ha
  have hib := digInfo b hb
  have hi1 := digInfo (pNode a b) (pNode_length a b)
  have hz1 := zeroSize (pNode a b) (pNode_length a b)
  have ho1 := bc_oneCell (pNode a b)
  generalize pNode a b = D at *
  have A3 := hide (al3 w (.cells (bc a) 24) (.cells (bc b) 24) (.cells (bc (List.replicate 32 0)) 24))
  have B3 := hide (bel3 w (.cells (bc a) 24) (.cells (bc b) 24) (.cells (bc (List.replicate 32 0)) 24))
  have S3 : Hid ((((w.alloc (.cells (bc a) 24)).alloc (.cells (bc b) 24)).alloc (.cells (bc (List.replicate 32 0)) 24)).heap.size = w.heap.size + 1 + 1 + 1) := hide (by simp)
  have CO := hide co
  have HT := hide tabs
  clear co tabs
  go_enter Tryd.func29, Tryd.ntmps29
  go_wp2_with (first
    | refine wpList_load_row rfl 24 (.tmp 4) rfl w.heap.size rfl 24 _ (0, 0) _ (unhide A3).1 Tryd.underlying24 rfl hia ?_
    | refine wpList_load_row rfl 24 (.tmp 5) rfl (w.heap.size + 1) rfl 24 _ (0, 0) _ (unhide A3).2.1 Tryd.underlying24 rfl hib ?_)
  refine (unhide CO _ ((unhide HT).below (unhide B3) (Nat.le_refl _))).mono ?_
  rintro e w2 ⟨rfl, hb2⟩
  have q2 := Below.at hb2 (by have := unhide S3; omega) (unhide A3).2.2
  have hbw : Below w.heap.size w w2 := (unhide B3).trans (hb2.mono (by have := unhide S3; omega))
  have Q2 := hide q2
  have HB := hide hbw
  clear hb2 q2 hbw
  go_wp2_with (refine wpList_store_row rfl 24 (.tmp 6) (.tmp 10) rfl (w.heap.size + 1 + 1) _ rfl rfl 24 _ (unhide Q2) hi1 hz1 ho1 ?_)
  exact bodyPost_ret (results_cell_row rfl _ _ (w.heap.size + 1 + 1) _ _ _ _ rfl (setRow_heap _ _ _ _ _ _ (unhide Q2)) Tryd.underlying24 rfl hi1) rfl ⟨rfl, below_setRow (unhide HB) (by omega) _⟩
/-- The nought of a level. -/
def pNought : Nat → List UInt8
  | 0 => List.replicate 32 0
  | k + 1 => pNode (pNought k) (pNought k)
theorem pNought_length : ∀ k, (pNought k).length = 32
  | 0 => rfl
  | k + 1 => pNode_length _ _
set_option maxHeartbeats 1000000 in
set_option maxRecDepth 100000 in
theorem nought_calls (x : Int) (w : World) (tabs : Tabs w) :
    Calls Tryd.prog 14 #[.pointer none, .int .i64 x] w fun e w' => e = .returned (.agg (bc (pNought (if x < 0 ∨ 32 < x then 0 else x.toNat)))) ∧ Below w.heap.size w w' := by
  have A2 := hide (al2 w (.cells (bc (pNought 0)) 24) (.cells (bc (pNought 0)) 24))
  have B2 := hide (bel2 w (.cells (bc (pNought 0)) 24) (.cells (bc (pNought 0)) 24))
  have HT := hide tabs
  have HI := hide (fun k => digInfo (pNought k) (pNought_length k))
  have HZ := hide (fun k => zeroSize (pNought k) (pNought_length k))
  have HO := hide (fun k => bc_oneCell (pNought k))
  have CN := hide (fun k w tabs => node_calls (pNought k) (pNought k) (pNought_length k) (pNought_length k) w tabs)
  clear tabs
  by_cases hx : x < 0 ∨ 32 < x
  · rw [if_pos hx]
    have hi := unhide HI 0
    have hz := unhide HZ 0
    have ho := unhide HO 0
    have d : (decide (x < 0) = true) ∨ (decide (x < 0) = false ∧ decide (32 < x) = true) := by
      rcases hx with h | h
      · exact .inl (by simpa using h)
      · exact .inr ⟨by simp; omega, by simpa using h⟩
    clear hx
    go_enter Tryd.func14, Tryd.ntmps14
    rcases d with d | ⟨d1, d2⟩
    all_goals
      go_wp2_with (first
        | refine wpList_load_row rfl 24 (.tmp 5) rfl (w.heap.size + 1) rfl 24 _ (0, 0) _ (unhide A2).2 Tryd.underlying24 rfl hi ?_
        | refine wpList_store_row rfl 24 (.tmp 4) (.tmp 12) rfl w.heap.size _ rfl rfl 24 _ (unhide A2).1 hi hz ho ?_)
      exact bodyPost_ret (results_cell_row rfl _ _ w.heap.size _ _ _ _ rfl (setRow_heap _ _ _ _ _ _ (unhide A2).1) Tryd.underlying24 rfl hi) rfl ⟨rfl, below_setRow (unhide B2) (Nat.le_refl _) _⟩
  · rw [if_neg hx]
    obtain ⟨n, rfl⟩ := Int.eq_ofNat_of_zero_le (show 0 ≤ x by omega)
    have hn : n ≤ 32 := by omega
    have d1 : decide ((n : Int) < 0) = false := by simp
    have d2 : decide ((32 : Int) < (n : Int)) = false := by simp; omega
    clear hx
    rw [show (↑n : Int).toNat = n from rfl]
    go_enter Tryd.func14, Tryd.ntmps14
    go_wp2
    obtain ⟨N, hN⟩ : ∃ N, w.heap.size = N := ⟨_, rfl⟩
    have HN := hide hN
    go_loopw [14] (fun i wr => ∃ k : Nat, k ≤ n ∧ i = .int .i64 (k : Int) ∧ Below N w wr ∧ wr.heap[N]? = some (.cells (bc (pNought 0)) 24 (0, 0)) ∧ wr.heap[N + 1]? = some (.cells (bc (pNought k)) 24 (0, 0))) (fun i _ => n - (intOf i).toNat)
    case atStart =>
      subst hN
      exact ⟨0, by omega, rfl, unhide B2, (unhide A2).1, (unhide A2).2⟩
    case round =>
      obtain ⟨k, hk, rfl, hb, q0, q1⟩ := hrel
      rw [hN]
      clear A2 B2
      by_cases hlt : k < n
      · have hd : decide (k < n) = true := by simpa using hlt
        have hi := unhide HI k
        have hi1 := unhide HI (k + 1)
        have ho1 := unhide HO (k + 1)
        have hz1 : (bc (pNought k)).size = (bc (pNought (k + 1))).size := by rw [bc_size, bc_size, pNought_length, pNought_length]
        have tb := (unhide HT).below hb (by rw [← hN]; exact Nat.le_refl _)
        have cn := unhide CN k wr tb
        change Calls _ _ _ _ fun e w' => e = .returned (.agg (bc (pNought (k + 1)))) ∧ _ at cn
        obtain ⟨D1, hD⟩ : ∃ D, pNought (k + 1) = D := ⟨_, rfl⟩
        rw [hD] at hi1 ho1 hz1 cn
        have hz : N + 1 < wr.heap.size := (Array.getElem?_eq_some_iff.1 q1).1
        have HD := hide hD
        have CNN := hide cn
        have Q0 := hide q0
        have Q1 := hide q1
        have HB := hide hb
        have Hk := hide hlt
        have Hz := hide hz
        clear q0 q1 hb cn tb hlt hz hD
        go_wp2_with (refine wpList_load_row rfl 24 (.tmp 5) rfl (N + 1) rfl 24 _ (0, 0) _ (unhide Q1) Tryd.underlying24 rfl hi ?_)
        refine (unhide CNN).mono ?_
        rintro e w2 ⟨rfl, hb2⟩
        have p0 := Below.at hb2 (by have := unhide Hz; omega) (unhide Q0)
        have p1 := Below.at hb2 (unhide Hz) (unhide Q1)
        have bb : Below N w w2 := (unhide HB).trans (hb2.mono (by have := unhide Hz; omega))
        have P0 := hide p0
        have P1 := hide p1
        have BB := hide bb
        clear p0 p1 bb hb2
        go_wp2_with (refine wpList_store_row rfl 24 (.tmp 5) (.tmp 19) rfl (N + 1) _ rfl rfl 24 _ (unhide P1) hi1 hz1 ho1 ?_)
        refine ⟨⟨k + 1, by have := unhide Hk; omega, by go_num, below_setRow (unhide BB) (by omega) _, ?_, ?_⟩, by have := unhide Hk; simp [intOf]; omega⟩
        · rw [setRow_other _ _ _ _ (by omega)]; exact unhide P0
        · rw [unhide HD]; exact setRow_heap _ _ _ _ _ _ (unhide P1)
      · have hd : decide (k < n) = false := by simpa using hlt
        have hkl : k = n := by omega
        have hi := unhide HI n
        have hz := unhide HZ n
        have ho := unhide HO n
        rw [hkl] at q1
        have Q0 := hide q0
        have Q1 := hide q1
        have HB := hide hb
        clear q0 q1 hb hkl hlt
        go_wp2_with (first
          | refine wpList_load_row rfl 24 (.tmp 5) rfl (N + 1) rfl 24 _ (0, 0) _ (unhide Q1) Tryd.underlying24 rfl hi ?_
          | refine wpList_store_row rfl 24 (.tmp 4) (.tmp 21) rfl N _ rfl rfl 24 _ (unhide Q0) hi hz ho ?_)
        exact bodyPost_ret (results_cell_row rfl _ _ N _ _ _ _ rfl (setRow_heap _ _ _ _ _ _ (unhide Q0)) Tryd.underlying24 rfl hi) rfl ⟨rfl, by rw [unhide HN]; exact below_setRow (unhide HB) (Nat.le_refl _) _⟩
end Go.Proofs.YtcmfahibdkflaaaDoor
