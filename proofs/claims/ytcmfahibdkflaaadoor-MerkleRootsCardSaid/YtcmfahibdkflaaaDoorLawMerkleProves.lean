/-
  THE WALK OF THE LAW MerkleProves: it returns true, and nothing that was there has turned.
-/
import Derived.Test.YtcmfahibdkflaaaDoorTreeK
namespace Go.Proofs.YtcmfahibdkflaaaDoor
open Go Go.RowKit
set_option linter.unusedSimpArgs false
set_option linter.unusedVariables false

set_option maxHeartbeats 1000000 in
theorem merkleProves_other (ds : List (List UInt8)) (hn : 40 < ds.length ∨ ds.length = 0) (hlen : ds.length ≤ 9223372036854775807) (p : Option Addr) (cap : Nat) (x : Int) (w : World) (tabs : Tabs w) :
    Calls Tryd.prog 7 #[.slice p ds.length cap, .int .i64 x] w fun e w' => e = .returned (.bool true) ∧ Below w.heap.size w w' := by
  have d : (decide ((40 : Int) < (ds.length : Int)) = true) ∨ (decide ((40 : Int) < (ds.length : Int)) = false ∧ ((ds.length : Int) == 0) = true) := by
    rcases hn with h | h
    · exact .inl (by simp; omega)
    · exact .inr ⟨by rw [h]; rfl, by rw [h]; rfl⟩
  have HT := hide tabs
  clear hn tabs
  go_enter Tryd.func7, Tryd.ntmps7
  go_wp2_with fail
  refine (mawake_calls _ (unhide HT)).mono ?_
  rintro e w1 ⟨rfl, hb1⟩
  rcases d with d | ⟨d1, d2⟩
  all_goals
    go_wp2_with fail
    refine (mawake_calls _ ((unhide HT).below hb1 (Nat.le_refl _))).mono ?_
    rintro e w2 ⟨rfl, hb2⟩
    go_wp2
    go_ret
    exact ⟨rfl, hb1.trans (hb2.mono hb1.size)⟩
set_option maxHeartbeats 4000000 in
set_option maxRecDepth 100000 in
theorem merkleProves_some (ds : List (List UInt8)) (h0 : 0 < ds.length) (hn : ds.length ≤ 40) (p : Option Addr) (cap : Nat) (hcap : ds.length ≤ cap) (x : Int) (w : World) (hD : DL w p ds) (tabs : Tabs w) :
    Calls Tryd.prog 7 #[.slice p ds.length cap, .int .i64 x] w fun e w' => e = .returned (.bool true) ∧ Below w.heap.size w w' := by
  obtain ⟨y, fy⟩ : ∃ y : Nat, IntKind.u64.wrap x = (y : Int) := ⟨(x % 18446744073709551616).toNat, by rw [IntKind.wrap_u64]; omega⟩
  obtain ⟨k, fk, hk⟩ : ∃ k : Nat, (y : Int) % (ds.length : Int) = (k : Int) ∧ k < ds.length := ⟨y % ds.length, by push_cast; rfl, Nat.mod_lt _ h0⟩
  have d1 : decide ((40 : Int) < (ds.length : Int)) = false := by simp; omega
  have d2 : ((ds.length : Int) == 0) = false := by rw [beq_eq_false_iff_ne]; omega
  have hb := branch_proves ds (by omega) k hk
  have hBl := pBranch_length ds k
  have htk : ds.take 4096 = ds := List.take_of_length_le (by omega)
  have hOl : (pOfD ds).length = 32 := by rw [of_st ds (by omega)]; exact pNode_length _ _
  have hEl := hD.len k hk
  have CB := hide (fun w h t => branch_calls ds p cap k hk (by omega) w h t)
  have CK := hide (fun w h t => keep_calls ds p cap hcap (by omega) w h t)
  rw [htk] at CK
  have CR := hide (fun L (hL : Kept ds L) w t => (by
    have h := root_calls ds.length (by omega) L hL.len w t
    rw [top_st ds L hL 32 (Nat.le_refl _), Nat.div_eq_of_lt (show ds.length < 2 ^ 32 by omega), ← of_st ds (by omega)] at h
    exact h : Calls Tryd.prog 12 #[.pointer none, .agg (tr ds.length L)] w fun e w' => e = .returned (.agg (bc (pOfD ds))) ∧ Below w.heap.size w w'))
  obtain ⟨R, hR⟩ : ∃ R, pOfD ds = R := ⟨_, rfl⟩
  obtain ⟨E, hE⟩ : ∃ E, ds.getD k [] = E := ⟨_, rfl⟩
  obtain ⟨BR, hBR⟩ : ∃ B, pBranch ds k = B := ⟨_, rfl⟩
  rw [hR] at hb hOl CR
  rw [hE] at hb hEl
  rw [hBR] at hb hBl CB
  have hiR := digInfo R hOl
  have hzR := zeroSize R hOl
  have HRange : Hid (∃ b off, p = some ⟨b, off, none⟩ ∧ b < w.heap.size ∧ w.rangeAt b (off + k * 32) (Lib.byteCells E)) := hide (by
    obtain ⟨b, off, e, hlt, hc⟩ := hD.2 (by intro h; rw [h] at h0; simp at h0)
    have := hc k hk
    rw [hE] at this
    exact ⟨b, off, e, hlt, this⟩)
  obtain ⟨b, off, rfl, hbw, hrg⟩ := unhide HRange
  have CP := hide (fun g c w h t => proves_true R E BR hOl hEl k (by omega) hb hBl (some ⟨g, 0, none⟩) c w h t)
  have HD := hide hD
  have HT := hide tabs
  have HRg := hide hrg
  have Hbw := hide hbw
  have HEl := hide hEl
  have b1 : (0 : Int) ≤ k ∧ (k : Int) < ds.length := by omega
  have fk2 : (y : Int).tmod (ds.length : Int) = (k : Int) := by rw [Int.tmod_eq_emod_of_nonneg (by omega)]; exact fk
  have fk3 : IntKind.i64.wrap (k : Int) = (k : Int) := wi64 _ (by omega) (by omega)
  have fk4 : IntKind.u32.wrap (k : Int) = (k : Int) := by rw [IntKind.wrap_u32']; omega
  have nz : ¬ ds.length = 0 := by omega
  clear hD tabs hrg hbw HRange hb hOl hBl hR hE hBR htk hk hEl h0
  go_enter Tryd.func7, Tryd.ntmps7
  go_wp2_with fail
  refine (mawake_calls _ (unhide HT)).mono ?_
  rintro e w1 ⟨rfl, hb1⟩
  have T1 := hide ((unhide HT).below hb1 (Nat.le_refl _))
  have D1 := hide ((unhide HD).below hb1 (Nat.le_refl _))
  have B1 := hide hb1
  clear hb1
  go_wp2_with fail
  refine (unhide CB _ (unhide D1) (unhide T1)).mono ?_
  rintro e w2 ⟨⟨g, c, rfl, hc, hg, hdl⟩, hb2⟩
  have T2 := hide ((unhide T1).below hb2 (Nat.le_refl _))
  have D2 := hide ((unhide D1).below hb2 (Nat.le_refl _))
  have L2 := hide hdl
  have B2 := hide ((unhide B1).trans (hb2.mono (unhide B1).size))
  clear hb2 hdl hc hg
  go_wp2_with fail
  refine (unhide CK _ (unhide D2) (unhide T2)).mono ?_
  rintro e w3 ⟨⟨L, hL, rfl⟩, hb3⟩
  have T3 := hide ((unhide T2).below hb3 (Nat.le_refl _))
  have L3 := hide ((unhide L2).below hb3 (Nat.le_refl _))
  have B3 := hide ((unhide B2).trans (hb3.mono (unhide B2).size))
  have CR2 := hide (unhide CR L hL.kept)
  clear hb3 hL
  go_wp2_with fail
  refine (unhide CR2 _ (unhide T3)).mono ?_
  rintro e w4 ⟨rfl, hb4⟩
  have T4 := hide ((unhide T3).below hb4 (Nat.le_refl _))
  have L4 := hide ((unhide L3).below hb4 (Nat.le_refl _))
  have B4 := hide ((unhide B3).trans (hb4.mono (unhide B3).size))
  clear hb4
  go_wp2_with (refine wpList_store_new rfl 24 (.tmp 8) (.tmp 35) rfl w4 _ _ R rfl rfl hiR hzR ?_; intro w5 q5 hb5 z5)
  have T5 := (unhide T4).below hb5 (Nat.le_refl _)
  have L5 := (unhide L4).below hb5 (Nat.le_refl _)
  have B5 := (unhide B4).trans (hb5.mono (unhide B4).size)
  have rg5 := rangeAt_below (unhide HRg) B5 (unhide Hbw)
  have sz5 := B5.size
  obtain ⟨G, hG⟩ : ∃ G, w4.heap.size = G := ⟨_, rfl⟩
  rw [hG] at q5 z5
  have kA : Hid (∀ dd os, Calls Tryd.prog 9 #[] (Sort.grow (redrawn w5 dd) os) fun e w'' => e = .returned (.bool true) ∧ ∃ p : Regrown, w'' = Sort.grow (redrawn w5 p.d) p.os) := fun dd os => Calls.regrown_of (mawake_calls _ (T5.below (below_regrown w5 dd os) (Nat.le_refl _)))
  have kP : Hid (∀ dd os, Calls Tryd.prog 25 #[.pointer none, .agg (bc R), .agg (bc E), .int .u32 (k : Int), .slice (some ⟨g, 0, none⟩) 32 c] (Sort.grow (redrawn w5 dd) os) fun e w'' => e = .returned (.bool true) ∧ ∃ p : Regrown, w'' = Sort.grow (redrawn w5 p.d) p.os) := fun dd os =>
    Calls.regrown_of (unhide CP g c _ (L5.below (below_regrown w5 dd os) (Nat.le_refl _)) (T5.below (below_regrown w5 dd os) (Nat.le_refl _)))
  have RM : Hid (∀ w', (∃ p : Regrown, w' = Sort.grow (redrawn w5 p.d) p.os) → w'.rangeAt b (off + k * 32) (Lib.byteCells E)) := fun w' ⟨p, hp⟩ => by
    rw [hp]; exact rangeAt_below rg5 (below_regrown w5 p.d p.os) (by have := unhide Hbw; omega)
  have R5 : Hid (∀ w', (∃ p : Regrown, w' = Sort.grow (redrawn w5 p.d) p.os) → w'.heap[G]? = some (.cells (bc R) 24 (0, 0))) := fun w' ⟨p, hp⟩ => by
    rw [hp]; exact Below.at (below_regrown w5 p.d p.os) (by omega) q5
  have HB5 := hide B5
  clear T5 L5 B5 rg5 sz5 q5 hb5 z5
  rw [hG]
  clear hG
  go_wp2_with fail
  refine wp_region_below mixed (by kernel_rfl) ?_
  quiet_step (exact unhide kA _ _)
  go_big_quiet_step (fail)
  go_big_quiet_step (fail)
  go_big_quiet_step (fail)
  go_big_quiet_step (fail)
  go_big_quiet_step (fail)
  go_big_quiet_step (fail)
  go_big_quiet_step (fail)
  go_big_quiet_step (fail)
  go_big_quiet_step (fail)
  go_big_quiet_step (fail)
  refine wpQuiet_load_row rfl 24 (.tmp 8) rfl G rfl 24 _ (0, 0) _ (unhide R5) Tryd.underlying24 rfl hiR ?_
  quiet_step (fail)
  quiet_step (fail)
  quiet_step (fail)
  refine wpQuiet_load_mid rfl 24 (.tmp 50) rfl b (off + k * 32) rfl (Lib.byteCells E) _ (unhide RM) Tryd.underlying24 rfl (by rw [Lib.byteCells_length, unhide HEl]; kernel_rfl) ?_
  quiet_step (fail)
  quiet_step (fail)
  quiet_step (fail)
  quiet_step (exact unhide kP _ _)
  quiet_step (fail)
  quiet_step (fail)
  refine wpQuiet_nil ?_
  intro w6 hb6
  go_wp2
  go_ret
  exact ⟨rfl, (unhide HB5).trans (hb6.mono (unhide HB5).size)⟩
theorem merkleProves_walk (ds : List (List UInt8)) (hlen : ds.length ≤ 9223372036854775807) (p : Option Addr) (cap : Nat) (hcap : ds.length ≤ cap) (x : Int) (w : World) (hD : DL w p ds) (tabs : Tabs w) :
    Calls Tryd.prog 7 #[.slice p ds.length cap, .int .i64 x] w fun e w' => e = .returned (.bool true) ∧ Below w.heap.size w w' := by
  by_cases h : 40 < ds.length ∨ ds.length = 0
  · exact merkleProves_other ds h hlen p cap x w tabs
  · exact merkleProves_some ds (by omega) (by omega) p cap hcap x w hD tabs
end Go.Proofs.YtcmfahibdkflaaaDoor
