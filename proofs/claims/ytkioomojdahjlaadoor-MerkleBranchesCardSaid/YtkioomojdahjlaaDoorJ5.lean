/-
  WHAT THE DOCUMENT's OWN Of, Branch, Climb, Proves OF LAYER 7 RETURN, where there is no log.
-/
/-
  WHAT THE DOCUMENT's OWN Climb AND Proves OF LAYER 7 RETURN, where there is no log.
-/
/-
  MerkleBranches: the branch of any leaf, and whether any branch proves, are the document's.
-/
/-
  WHAT THE ROWS OF LAYER 1 LIST GIVES THE WALKS: the two tables of package sha, read as the program's text lays them.
-/
/-
  ARRAYS OF NUMBERS AS ARGUMENTS: what a row hands the walks. Over whatever program.
-/
/-
  A DIGEST AS THE ARGUMENT OF A ROW.
-/
/-
  LISTS OF DIGESTS AS ARGUMENTS: what a row hands the walks.
-/
import Derived.Test.YtkioomojdahjlaaDoorJ4
import Derived.Test.YtkioomojdahjlaaDoorJ3
import Derived.Test.YtkioomojdahjlaaDoorJ0
import Derived.Test.YtkioomojdahjlaaDoorCards
import Derived.Test.YtkioomojdahjlaaDoorTie
import Derived.ProofKit
import Derived.OpenShut
import Derived.Deep.DeepHandedRow
import Derived.Lib.LaidTab
import Derived.WideKeyArr2
import Derived.ChangeMaps5
import Derived.Deep.Slices
import Derived.Lib.SmallJoins
namespace Go.Proofs.YtkioomojdahjlaaDoor
open Go Go.RowKit
set_option linter.unusedSimpArgs false
set_option linter.unusedVariables false

set_option maxHeartbeats 1000000 in
set_option maxRecDepth 100000 in
theorem rof_calls (ds : List (List UInt8)) (p : Option Addr) (cap : Nat) (hcap : ds.length ≤ cap) (hlen : ds.length ≤ 100000000) (w : World) (hD : DL w p ds) :
    Calls Tryd.prog 14 #[.pointer none, .slice p ds.length cap] w fun e w' => e = .returned (.agg (bc (pOfD ds))) ∧ Below w.heap.size w w' := by
  have a1 := al1 w (.cells (bc (List.replicate 32 0)) 24)
  have b1 := hide ((Below.refl w.heap.size w).alloc (Nat.le_refl _) (.cells (bc (List.replicate 32 0)) 24))
  have zX := hide (Array.getElem?_eq_some_iff.1 a1).1
  have cf := hide fun w => rfirst_calls p ds.length cap hcap (by omega) w
  have htk : min ds.length 4096 = (ds.take 4096).length := by simp; omega
  rw [htk] at cf
  have hlen' : (ds.take 4096).length ≤ 100000000 := by simp; omega
  have e32 : pOfD ds = st (ds.take 4096) 32 0 := by unfold pOfD; rw [stand_st]
  have hDt := hide (hD.take 4096)
  have cN := hide fun w => rnoughts_calls w
  have cn := hide fun pz cz W (h : DL W pz ((List.range 33).map pNought)) (h2 : DL W p (ds.take 4096)) => rnode_calls (ds.take 4096) hlen' pz p cz cap 32 (Nat.le_refl _) 0 (by decide) W h h2
  have hl := st_length (ds.take 4096) (hD.take 4096).1 32 0
  rw [e32]
  obtain ⟨D, hDD⟩ : ∃ D, st (ds.take 4096) 32 0 = D := ⟨_, rfl⟩
  rw [hDD] at cn hl
  rw [hDD]
  have hi := digInfo D hl
  have hz := zeroSize D hl
  have ho := bc_oneCell D
  rw [show ((32 : Nat) : Int) = 32 from rfl, show ((0 : Nat) : Int) = 0 from rfl] at cn
  generalize ds.take 4096 = es at *
  clear hD e32 hDD hl htk hlen'
  go_enter Tryd.func14, Tryd.ntmps14
  go_wp2_with fail
  refine (unhide cN _).mono ?_
  rintro e w2 ⟨⟨pz, cz, rfl, hcz, dZ⟩, b2⟩
  have q2 := Below.at b2 (unhide zX) a1
  have bb2 := (unhide b1).trans (b2.mono (Nat.le_of_lt (unhide zX)))
  have d2 := (unhide hDt).below bb2 (Nat.le_refl _)
  have z2 : w.heap.size < w2.heap.size := Nat.lt_of_lt_of_le (unhide zX) b2.size
  clear b2 a1 b1
  go_wp2_with fail
  refine (unhide cf _).mono ?_
  rintro e w3 ⟨rfl, rfl⟩
  go_wp2_with fail
  refine (unhide cn _ _ _ dZ d2).mono ?_
  rintro e w4 ⟨rfl, b4⟩
  have q4 := Below.at b4 z2 q2
  have bb4 := bb2.trans (b4.mono (Nat.le_of_lt z2))
  go_wp2_with (refine wpList_store_row rfl 24 (.tmp 4) (.tmp 10) rfl w.heap.size (bc D) rfl rfl 24 _ q4 hi hz ho ?_)
  exact bodyPost_ret (results_cell_row rfl _ _ w.heap.size _ _ _ _ rfl (setRow_heap _ _ _ _ _ _ q4) Tryd.underlying24 rfl hi) rfl ⟨rfl, below_setRow bb4 (Nat.le_refl _) _⟩
set_option maxHeartbeats 400000 in
theorem rbranch_arg (ds : List (List UInt8)) (p : Option Addr) (cap : Nat) (x : Int) (hx : x < 0 ∨ (ds.length : Int) ≤ x) (w : World) :
    Calls Tryd.prog 18 #[.pointer none, .slice p ds.length cap, .int .i64 x] w fun e w' => e = .returned (.tuple #[.slice none 0 0, .int .i64 2]) ∧ w' = w := by
  have d : (decide (x < 0) = true) ∨ (decide (x < 0) = false ∧ decide ((ds.length : Int) ≤ x) = true) := by
    by_cases h : x < 0
    · exact .inl (by simpa using h)
    · exact .inr ⟨by simpa using h, by simp; omega⟩
  clear hx
  go_enter Tryd.func18, Tryd.ntmps18
  rcases d with d | ⟨d1, d2⟩
  all_goals
    go_wp2
    go_ret2
    exact ⟨rfl, rfl⟩
set_option maxHeartbeats 2000000 in
set_option maxRecDepth 100000 in
theorem rbranch_calls (ds : List (List UInt8)) (p : Option Addr) (cap : Nat) (x : Nat) (hx : x < ds.length) (hlen : ds.length ≤ 4096) (w : World) (hD : DL w p ds) :
    Calls Tryd.prog 18 #[.pointer none, .slice p ds.length cap, .int .i64 (x : Int)] w fun e w' => (∃ g c, e = .returned (.tuple #[.slice g 32 c, .int .i64 0]) ∧ 32 ≤ c ∧ DL w' g (pBranch ds x)) ∧ Below w.heap.size w w' := by
  have d1 : decide ((x : Int) < 0) = false := by simp
  have d2 : decide (ds.length ≤ x) = false := by simp; omega
  have d3 : decide ((4096 : Int) < (ds.length : Int)) = false := by simp; omega
  have cN := hide fun w => rnoughts_calls w
  have HS := hide (sideAt_length hD.1 x)
  have HD := hide hD
  have Hlen := hide hlen
  have Hx := hide hx
  clear hx hlen hD
  go_enter Tryd.func18, Tryd.ntmps18
  go_wp2_with fail
  refine (unhide cN _).mono ?_
  rintro e w2 ⟨⟨pz, cz, rfl, hcz, dZ⟩, b2⟩
  have HZ := hide dZ
  have B2 := hide b2
  have HDw := hide ((unhide HD).below b2 (Nat.le_refl _))
  clear dZ b2 cN HD
  go_wp2
  go_loopw [2, 9, 10] (fun a s i wr => ∃ k m : Nat, k ≤ 32 ∧ Hid (m = x / 2 ^ k) ∧ a = .int .i64 (m : Int) ∧ i = .int .i64 (k : Int) ∧ wr.ownsRow w2.heap.size 24 32 s k (Lib.byteCells ((List.range k).flatMap (sideAt ds x))) ∧ Below w2.heap.size w2 wr) (fun _ _ i _ => 32 - (intOf i).toNat)
  case atStart => exact ⟨0, x, by omega, (by simp : x = x / 2 ^ 0), rfl, rfl, World.ownsRow_nil _ _ _ _, Below.refl _ _⟩
  case round =>
    obtain ⟨k, m, hk, hm, rfl, rfl, hO, hb⟩ := hrel
    by_cases hlt : k < 32
    · have hd : decide ((k : Int) < 32) = true := by simp; omega
      have hmx : m ≤ x := by rw [unhide hm]; exact Nat.div_le_self _ _
      have hml : m ≤ 4096 := by have := unhide Hx; have := unhide Hlen; omega
      have hpk : 2 ^ k ≤ 4294967296 := Nat.le_trans (Nat.pow_le_pow_right (by decide) (by omega : k ≤ 32)) (by decide)
      obtain ⟨o, ho⟩ : ∃ o, (x / 2 ^ k) ^^^ 1 = o := ⟨_, rfl⟩
      have hox : o = if m % 2 = 1 then m - 1 else m + 1 := by rw [← ho, ← unhide hm, xor1]
      have hob : (o + 1) * 2 ^ k ≤ 70368744177664 := by
        have : o + 1 ≤ 4098 := by rw [hox]; split <;> omega
        exact Nat.le_trans (Nat.mul_le_mul this hpk) (by decide)
      have hob2 : o ≤ 4097 := by rw [hox]; split <;> omega
      have cn := hide fun W (h : DL W pz ((List.range 33).map pNought)) (h2 : DL W p ds) => rnode_calls ds (by have := unhide Hlen; omega) pz p cz cap k (by omega) o hob W h h2
      have est : st ds k o = sideAt ds x k := by unfold sideAt; rw [stand_st, ho]
      rw [est] at cn
      have hsl := unhide HS k
      have hfs := flat_snoc (sideAt ds x) k
      obtain ⟨D, hDD⟩ : ∃ D, sideAt ds x k = D := ⟨_, rfl⟩
      rw [hDD] at cn hsl hfs
      have ho1 := bc_oneCell D
      have hs0 : Hid ((bc D).size = 32) := by show _ = _; rw [bc_size, hsl]
      obtain ⟨m2, hm2, em2⟩ : ∃ m2 : Nat, Hid (m / 2 = m2) ∧ (m : Int) / 2 = (m2 : Int) := ⟨_, rfl, by omega⟩
      have et : (m : Int).tdiv 2 = (m2 : Int) := by rw [Int.tdiv_eq_ediv_of_nonneg (by omega)]; exact em2
      have er : (m : Int).tmod 2 = (m : Int) % 2 := Int.tmod_eq_emod_of_nonneg (by omega)
      have dW := hide ((unhide HDw).below hb (Nat.le_refl _))
      have dZ' := hide ((unhide HZ).below hb (Nat.le_refl _))
      have zr := hide hb.size
      have Hfs := hide hfs
      have HO := hide hO
      have HB := hide hb
      have hm' : Hid (m2 = x / 2 ^ (k + 1)) := by show _ = _; rw [← unhide hm2, unhide hm, Nat.div_div_eq_div_mul, ← Nat.pow_succ]
      clear hm hm2 ho hob est hsl hfs hDD hO hb hmx hpk
      by_cases hodd : m % 2 = 1
      case' pos =>
        have e1 : ((m : Int) % 2 == 1) = true := by simp; omega
        have hoo : (m : Int) - 1 = (o : Int) := by rw [hox, if_pos hodd]; omega
        clear hox hodd
        go_wp2_with fail
      case' neg =>
        have e1 : ((m : Int) % 2 == 1) = false := by simp; omega
        have hoo : (m : Int) + 1 = (o : Int) := by rw [hox, if_neg hodd]; omega
        clear hox hodd
        go_wp2_with fail
      all_goals
        refine (unhide cn _ (unhide dZ') (unhide dW)).mono ?_
        rintro e w4 ⟨rfl, hb4⟩
        have o4 := hide (owns_keep (unhide HO) (fun k _ hk => hb4.block k hk) (Nat.le_refl _))
        have b4 := hide ((unhide HB).trans (hb4.mono (unhide zr)))
        have z4 := hide ((unhide b4).size)
        clear hb4 HO HB dZ' dW cn
        go_wp2_with (first
          | (refine wpList_build_one rfl 39 24 (.tmp 42) rfl 32 32 (by decide) (by decide) (bc D) rfl (unhide hs0) Tryd.underlying39 digRowInfo' ?_)
          | (at_builtin; (refine wpList_append_one rfl 39 24 (.tmp 36) (.tmp 43) rfl 32 32 (by decide) (by decide) Tryd.underlying39 digRowInfo' w2.heap.size u9 k _ rfl w4 (unhide o4) (unhide z4) (bc D) (unhide hs0) ho1 rfl (by omega) ?_); intro v' w5 o5 b5 k5; have ho5 := hide o5; have hb5 := hide ((unhide b4).trans b5); clear o5 b5 k5))
        refine ⟨⟨k + 1, m2, by omega, unhide hm', rfl, by go_num, by rw [unhide Hfs]; exact unhide ho5, unhide hb5⟩, by simp [intOf]; omega⟩
    · have hkl : k = 32 := by omega
      subst hkl
      have hd : decide (((32 : Nat) : Int) < 32) = false := by decide
      obtain ⟨g, c, rfl, hc, hDw⟩ := DL_of_owns (sideAt ds x) (unhide HS) hO
      have HDf := hide hDw
      have HB := hide ((unhide B2).trans (hb.mono (unhide B2).size))
      clear hO hb hlt hDw HDw
      go_wp2
      go_ret2
      exact ⟨⟨g, c, rfl, hc, unhide HDf⟩, unhide HB⟩
end Go.Proofs.YtkioomojdahjlaaDoor

namespace Go.Proofs.YtkioomojdahjlaaDoor
open Go Go.RowKit
set_option linter.unusedSimpArgs false
set_option linter.unusedVariables false

set_option maxHeartbeats 2000000 in
set_option maxRecDepth 100000 in
theorem rclimb_calls (leaf : List UInt8) (hl : leaf.length = 32) (x : Nat) (hx : x < 4294967296) (ds : List (List UInt8)) (p : Option Addr) (cap : Nat) (hlen : ds.length ≤ 1000000000) (w : World) (hD : DL w p ds) :
    Calls Tryd.prog 21 #[.pointer none, .agg (bc leaf), .int .u32 (x : Int), .slice p ds.length cap] w fun e w' => e = .returned (.agg (bc (pClimb leaf x ds (min ds.length 32)))) ∧ Below w.heap.size w w' := by
  have A2 := hide (al2 w (.cells (bc leaf) 24) (.cells (bc (List.replicate 32 0)) 24))
  have B2 := hide (bel2 w (.cells (bc leaf) 24) (.cells (bc (List.replicate 32 0)) 24))
  have HD := hide hD
  have HL := hide (pClimb_length leaf x ds hl)
  have Hm32 : Hid (min ds.length 32 ≤ 32) := hide (Nat.min_le_right _ _)
  have Hmd : Hid (min ds.length 32 ≤ ds.length) := hide (Nat.min_le_left _ _)
  have Hend : Hid ((min ds.length 32 = ds.length) ∨ (min ds.length 32 = 32 ∧ 32 < ds.length)) := hide (by omega)
  have Hx := hide hx
  have cb := hide fun k (hk : k ≤ 40) w => rbit_calls x hx k hk w
  obtain ⟨M, hM⟩ : ∃ M, min ds.length 32 = M := ⟨_, rfl⟩
  rw [hM] at Hm32 Hmd Hend
  rw [hM]
  clear hD hM hx
  go_enter Tryd.func21, Tryd.ntmps21
  go_wp2
  obtain ⟨N, hN⟩ : ∃ N, w.heap.size = N := ⟨_, rfl⟩
  have HN := hide hN
  go_loopw [9] (fun i wr => ∃ k : Nat, k ≤ M ∧ i = .int .i64 (k : Int) ∧ Below N w wr ∧ wr.heap[N + 1]? = some (.cells (bc (List.replicate 32 0)) 24 (0, 0)) ∧ wr.heap[N]? = some (.cells (bc (pClimb leaf x ds k)) 24 (0, 0))) (fun i _ => M - (intOf i).toNat)
  case atStart =>
    subst hN
    exact ⟨0, by omega, rfl, unhide B2, (unhide A2).2, (unhide A2).1⟩
  case round =>
    obtain ⟨k, hk, rfl, hb, q1, q2⟩ := hrel
    rw [hN]
    clear A2 B2
    by_cases hlt : k < M
    · have hkd : k < ds.length := by have := unhide Hmd; omega
      have hd : decide (k < ds.length) = true := by simpa using hkd
      have hd3 : decide ((k : Int) < 32) = true := by have := unhide Hm32; simp; omega
      have hDk := unhide HD
      obtain ⟨b, off, rfl, hlt2, hc⟩ := hDk.2 (by intro h; rw [h] at hkd; simp at hkd)
      have hEl := hDk.len k hkd
      have hr := rangeAt_below (hc k hkd) hb (by rw [← hN]; exact hlt2)
      have hTl := unhide HL k
      have hiT := digInfo _ hTl
      have hT2l := unhide HL (k + 1)
      have hi1 := digInfo _ hT2l
      have ho1 := bc_oneCell (pClimb leaf x ds (k + 1))
      have hz1 : (bc (pClimb leaf x ds k)).size = (bc (pClimb leaf x ds (k + 1))).size := by rw [bc_size, bc_size, hTl, hT2l]
      have hz : N + 1 < wr.heap.size := (Array.getElem?_eq_some_iff.1 q1).1
      have hT2e : pClimb leaf x ds (k + 1) = if x / 2 ^ k % 2 = 1 then pNode (ds.getD k []) (pClimb leaf x ds k) else pNode (pClimb leaf x ds k) (ds.getD k []) := rfl
      obtain ⟨E, hE⟩ : ∃ E, ds.getD k [] = E := ⟨_, rfl⟩
      rw [hE] at hEl hr hT2e
      obtain ⟨T1, hT1⟩ : ∃ T, pClimb leaf x ds k = T := ⟨_, rfl⟩
      rw [hT1] at hTl hiT hz1 q2 hT2e
      obtain ⟨T2, hT2⟩ : ∃ T, pClimb leaf x ds (k + 1) = T := ⟨_, rfl⟩
      rw [hT2] at hi1 ho1 hz1 hT2e hT2l
      have cbk := unhide cb k (by have := unhide Hm32; omega) wr
      obtain ⟨B, hB⟩ : ∃ B, x / 2 ^ k % 2 = B := ⟨_, rfl⟩
      rw [hB] at hT2e cbk
      have RM : Hid (∀ w', (∃ p : Regrown, w' = Sort.grow (redrawn wr p.d) p.os) → w'.rangeAt b (off + k * 32) (Lib.byteCells E)) := fun w' ⟨p, hp⟩ => by
        rw [hp]; exact rangeAt_below hr (below_regrown wr p.d p.os) (by have := hb.size; omega)
      have R2 : Hid (∀ w', (∃ p : Regrown, w' = Sort.grow (redrawn wr p.d) p.os) → w'.heap[N]? = some (.cells (bc T1) 24 (0, 0))) := fun w' ⟨p, hp⟩ => by
        rw [hp]; exact Below.at (below_regrown wr p.d p.os) (by omega) q2
      have HEl := hide hEl
      have HTl := hide hTl
      have HT2 := hide hT2
      have Q1 := hide q1
      have Q2 := hide q2
      have HB := hide hb
      have Hk := hide hlt
      have Hz := hide hz
      have HT2e := hide hT2e
      have CB := hide cbk
      have b1 : (0 : Int) ≤ k ∧ (k : Int) < ds.length := by omega
      clear q1 q2 hb hlt hz hT2 hT2e hE hT1 hr hc hlt2 hkd hB hEl hTl hT2l hDk cbk
      by_cases hbit : B = 1
      · have e1 := unhide HT2e
        rw [if_pos hbit] at e1
        have kN : Hid (∀ dd os, Calls Tryd.prog 26 #[.pointer none, .int .u8 6, .agg (bc E), .agg (bc T1)] (Sort.grow (redrawn wr dd) os) fun e w'' => e = .returned (.agg (bc T2)) ∧ ∃ p : Regrown, w'' = Sort.grow (redrawn wr p.d) p.os) := fun dd os => by
          rw [e1]; exact Calls.regrown_of (rnode2_calls E T1 (unhide HEl) (unhide HTl) _)
        have CB := unhide CB
        rw [decide_eq_true hbit] at CB
        have CB := hide CB
        clear e1 HT2e hbit
        go_wp2_with fail
        refine (unhide CB).mono ?_
        rintro e w9 ⟨rfl, hw9⟩
        rw [hw9]
        clear hw9
        go_wp2_with fail
        refine wp_region_below_tail 7 mixed (by kernel_rfl) ?_
        simp only [List.take_succ_cons, List.take_zero, List.drop_succ_cons, List.drop_zero]
        quiet_step (fail)
        quiet_step (fail)
        quiet_step (fail)
        quiet_step (fail)
        refine wpQuiet_load_mid rfl 24 (.tmp 26) rfl b (off + k * 32) rfl (Lib.byteCells E) _ (unhide RM) Tryd.underlying24 rfl (by rw [Lib.byteCells_length, unhide HEl]; kernel_rfl) ?_
        refine wpQuiet_load_row rfl 24 (.tmp 5) rfl N rfl 24 _ (0, 0) _ (unhide R2) Tryd.underlying24 rfl hiT ?_
        quiet_step (exact unhide kN _ _)
        refine wpQuiet_nil ?_
        intro w2 hb2
        have p1 := Below.at hb2 (unhide Hz) (unhide Q1)
        have p2 := Below.at hb2 (by have := unhide Hz; omega) (unhide Q2)
        have bb : Below N w w2 := (unhide HB).trans (hb2.mono (by have := unhide Hz; omega))
        have P1 := hide p1
        have P2 := hide p2
        have BB := hide bb
        clear p1 p2 bb hb2
        refine wpList_store_row rfl 24 (.tmp 5) (.tmp 29) rfl N _ rfl rfl 24 _ (unhide P2) hi1 hz1 ho1 ?_
        go_wp2
        refine ⟨⟨k + 1, by have := unhide Hk; omega, by go_num, below_setRow (unhide BB) (Nat.le_refl _) _, ?_, ?_⟩, by have := unhide Hk; simp [intOf]; omega⟩
        · rw [setRow_other _ _ _ _ (by omega)]; exact unhide P1
        · rw [unhide HT2]; exact setRow_heap _ _ _ _ _ _ (unhide P2)
      · have e1 := unhide HT2e
        rw [if_neg hbit] at e1
        have kN : Hid (∀ dd os, Calls Tryd.prog 26 #[.pointer none, .int .u8 6, .agg (bc T1), .agg (bc E)] (Sort.grow (redrawn wr dd) os) fun e w'' => e = .returned (.agg (bc T2)) ∧ ∃ p : Regrown, w'' = Sort.grow (redrawn wr p.d) p.os) := fun dd os => by
          rw [e1]; exact Calls.regrown_of (rnode2_calls T1 E (unhide HTl) (unhide HEl) _)
        have CB := unhide CB
        rw [decide_eq_false hbit] at CB
        have CB := hide CB
        clear e1 HT2e hbit
        go_wp2_with fail
        refine (unhide CB).mono ?_
        rintro e w9 ⟨rfl, hw9⟩
        rw [hw9]
        clear hw9
        go_wp2_with fail
        refine wp_region_below_tail 7 mixed (by kernel_rfl) ?_
        simp only [List.take_succ_cons, List.take_zero, List.drop_succ_cons, List.drop_zero]
        quiet_step (fail)
        refine wpQuiet_load_row rfl 24 (.tmp 5) rfl N rfl 24 _ (0, 0) _ (unhide R2) Tryd.underlying24 rfl hiT ?_
        quiet_step (fail)
        quiet_step (fail)
        quiet_step (fail)
        refine wpQuiet_load_mid rfl 24 (.tmp 34) rfl b (off + k * 32) rfl (Lib.byteCells E) _ (unhide RM) Tryd.underlying24 rfl (by rw [Lib.byteCells_length, unhide HEl]; kernel_rfl) ?_
        quiet_step (exact unhide kN _ _)
        refine wpQuiet_nil ?_
        intro w2 hb2
        have p1 := Below.at hb2 (unhide Hz) (unhide Q1)
        have p2 := Below.at hb2 (by have := unhide Hz; omega) (unhide Q2)
        have bb : Below N w w2 := (unhide HB).trans (hb2.mono (by have := unhide Hz; omega))
        have P1 := hide p1
        have P2 := hide p2
        have BB := hide bb
        clear p1 p2 bb hb2
        refine wpList_store_row rfl 24 (.tmp 5) (.tmp 36) rfl N _ rfl rfl 24 _ (unhide P2) hi1 hz1 ho1 ?_
        go_wp2
        refine ⟨⟨k + 1, by have := unhide Hk; omega, by go_num, below_setRow (unhide BB) (Nat.le_refl _) _, ?_, ?_⟩, by have := unhide Hk; simp [intOf]; omega⟩
        · rw [setRow_other _ _ _ _ (by omega)]; exact unhide P1
        · rw [unhide HT2]; exact setRow_heap _ _ _ _ _ _ (unhide P2)
    · have hkl : k = M := by omega
      have hd : decide (k < ds.length) = false ∨ (decide (k < ds.length) = true ∧ decide ((k : Int) < 32) = false) := by
        rcases unhide Hend with h | ⟨h1, h2⟩
        · exact .inl (by simp; omega)
        · exact .inr ⟨by simp; omega, by simp; omega⟩
      have hM1 := unhide HL k
      have hi := digInfo _ hM1
      have hz := zeroSize _ hM1
      have ho := bc_oneCell (pClimb leaf x ds k)
      have Q1 := hide q1
      have Q2 := hide q2
      have HB := hide hb
      have hkl' := hide hkl
      obtain ⟨T, hT⟩ : ∃ T, pClimb leaf x ds k = T := ⟨_, rfl⟩
      have HT : Hid (pClimb leaf x ds M = T) := by show _ = _; rw [← hkl]; exact hT
      rw [hT] at hi hz ho Q2
      clear q1 q2 hb hlt hM1 hT hkl
      rcases hd with hd | ⟨hd, hd3⟩
      all_goals
        go_wp2_with (first
          | refine wpList_load_row rfl 24 (.tmp 5) rfl N rfl 24 _ (0, 0) _ (unhide Q2) Tryd.underlying24 rfl hi ?_
          | refine wpList_store_row rfl 24 (.tmp 8) (.tmp 37) rfl (N + 1) _ rfl rfl 24 _ (unhide Q1) hi hz ho ?_)
        exact bodyPost_ret (results_cell_row rfl _ _ (N + 1) _ _ _ _ rfl (setRow_heap _ _ _ _ _ _ (unhide Q1)) Tryd.underlying24 rfl hi) rfl ⟨by rw [unhide HT], by rw [unhide HN]; exact below_setRow (unhide HB) (by omega) _⟩
set_option maxHeartbeats 1000000 in
set_option maxRecDepth 100000 in
theorem rproves_calls (root leaf : List UInt8) (hr : root.length = 32) (hl : leaf.length = 32) (x : Nat) (hx : x < 4294967296) (ds : List (List UInt8)) (p : Option Addr) (cap : Nat) (hlen : ds.length ≤ 1000000000) (w : World) (hD : DL w p ds) :
    Calls Tryd.prog 23 #[.pointer none, .agg (bc root), .agg (bc leaf), .int .u32 (x : Int), .slice p ds.length cap] w fun e w' => e = .returned (.bool (pProves root leaf x ds)) ∧ Below w.heap.size w w' := by
  have A2 := al2 w (.cells (bc root) 24) (.cells (bc leaf) 24)
  have B2 := hide (bel2 w (.cells (bc root) 24) (.cells (bc leaf) 24))
  have S2 : Hid (((w.alloc (.cells (bc root) 24)).alloc (.cells (bc leaf) 24)).heap.size = w.heap.size + 1 + 1) := hide (by simp)
  have hir := digInfo root hr
  have hil := digInfo leaf hl
  obtain ⟨X, hX⟩ : ∃ X, (w.alloc (.cells (bc root) 24)).alloc (.cells (bc leaf) 24) = X := ⟨_, rfl⟩
  rw [hX] at A2 B2 S2
  have dX := hD.below (unhide B2) (Nat.le_refl _)
  have s2 := unhide S2
  have R0 : Hid (∀ w', (∃ p : Regrown, w' = Sort.grow (redrawn X p.d) p.os) → w'.heap[w.heap.size]? = some (.cells (bc root) 24 (0, 0))) := fun w' ⟨p, hp⟩ => by
    rw [hp]; exact Below.at (below_regrown X p.d p.os) (by omega) A2.1
  have R1 : Hid (∀ w', (∃ p : Regrown, w' = Sort.grow (redrawn X p.d) p.os) → w'.heap[w.heap.size + 1]? = some (.cells (bc leaf) 24 (0, 0))) := fun w' ⟨p, hp⟩ => by
    rw [hp]; exact Below.at (below_regrown X p.d p.os) (by omega) A2.2
  have kC : Hid (∀ dd os, Calls Tryd.prog 21 #[.pointer none, .agg (bc leaf), .int .u32 (x : Int), .slice p ds.length cap] (Sort.grow (redrawn X dd) os) fun e w'' => e = .returned (.agg (bc (pClimb leaf x ds (min ds.length 32)))) ∧ ∃ p : Regrown, w'' = Sort.grow (redrawn X p.d) p.os) := fun dd os =>
    Calls.regrown_of (rclimb_calls leaf hl x hx ds p cap hlen _ (dX.below (below_regrown X dd os) (Nat.le_refl _)))
  have HX := hide hX
  unfold pProves
  by_cases h32 : ds.length = 32
  · have he := hide (dig_eq (pClimb leaf x ds 32) root (pClimb_length leaf x ds hl 32) hr)
    rw [show min ds.length 32 = 32 by omega] at kC
    rw [decide_eq_true h32, Bool.true_and]
    have m1 : ((ds.length : Int) != 32) = false := by simp; omega
    generalize decide (pClimb leaf x ds 32 = root) = E at *
    generalize pClimb leaf x ds 32 = T at *
    clear A2 s2 dX hX hD h32
    go_enter Tryd.func23, Tryd.ntmps23
    go_wp2_with (rw [unhide HX])
    refine wp_region_below mixed (by kernel_rfl) ?_
    quiet_step (fail)
    refine wpQuiet_load_row rfl 24 (.tmp 7) rfl (w.heap.size + 1) rfl 24 _ (0, 0) _ (unhide R1) Tryd.underlying24 rfl hil ?_
    quiet_step (fail)
    quiet_step (fail)
    quiet_step (exact unhide kC _ _)
    refine wpQuiet_load_row rfl 24 (.tmp 6) rfl w.heap.size rfl 24 _ (0, 0) _ (unhide R0) Tryd.underlying24 rfl hir ?_
    refine wpQuiet_eql rfl 24 24 (.tmp 18) (.tmp 19) rfl _ _ rfl rfl (by kernel_rfl) _ (unhide he) ?_
    repeat (quiet_step (fail))
    refine wpQuiet_nil ?_
    intro w3 hb3
    go_wp2
    go_ret
    exact ⟨rfl, (unhide B2).trans (hb3.mono (by have := unhide S2; omega))⟩
  · rw [decide_eq_false h32, Bool.false_and]
    have m1 : ((ds.length : Int) != 32) = true := by simp; omega
    clear A2 s2 dX hD h32 hX kC R0 R1
    go_enter Tryd.func23, Tryd.ntmps23
    go_wp2_with (rw [unhide HX])
    go_ret
    exact ⟨rfl, unhide B2⟩
/-- The document's SameList of two lists of the same digests: true. -/
theorem dig_neq (d : List UInt8) (hd : d.length = 32) (w : World) : (binOp .neq 24 (.agg (bc d)) (.agg (bc d))).run Tryd.prog w = .ok (.bool false) w := by
  have h := dig_eq d d hd hd w
  rw [decide_eq_true rfl] at h
  simp only [binOp, Op.equal] at h ⊢
  revert h
  simp only [Sem.run_bind]
  cases hh : (Op.equalIn Op.maxDepth 24 (.agg (bc d)) (.agg (bc d))).run Tryd.prog w with
  | ok v w' => intro h; simp [Result.andThen_ok] at h ⊢; obtain ⟨h1, h2⟩ := h; exact ⟨by simp [h1], h2⟩
  | halt e w' => intro h; simp [Result.andThen] at h
set_option maxHeartbeats 1000000 in
set_option maxRecDepth 100000 in
theorem sameDL_calls (p1 p2 : Option Addr) (c1 c2 : Nat) (ds : List (List UInt8)) (hl : ds.length ≤ 1000000000) (w : World) (D1 : DL w p1 ds) (D2 : DL w p2 ds) :
    Calls Tryd.prog 19 #[.slice p1 ds.length c1, .slice p2 ds.length c2] w fun e w' => e = .returned (.bool true) ∧ Below w.heap.size w w' := by
  have HD1 := hide D1
  have HD2 := hide D2
  obtain ⟨n, hn⟩ : ∃ n, ds.length = n := ⟨_, rfl⟩
  have Hn := hide hn
  rw [hn] at hl
  rw [hn]
  clear D1 D2 hn
  go_enter Tryd.func19, Tryd.ntmps19
  go_wp2
  go_loopw [13] (fun i wr => ∃ j : Nat, j ≤ n ∧ i = .int .i64 (j : Int) ∧ Below w.heap.size w wr) (fun i _ => n - (intOf i).toNat)
  case atStart => exact ⟨0, by omega, rfl, Below.refl _ _⟩
  case round =>
    obtain ⟨j, hj, rfl, hb⟩ := hrel
    by_cases hlt : j < n
    · have hd : decide (j < n) = true := by simpa using hlt
      have bk : (j : Int) < (n : Int) := by omega
      have hjd : j < ds.length := by have := unhide Hn; omega
      have hne0 : ds ≠ [] := by intro h; rw [h] at hjd; simp at hjd
      obtain ⟨b1, off1, rfl, hz1, hc1⟩ := (unhide HD1).2 hne0
      obtain ⟨b2, off2, rfl, hz2, hc2⟩ := (unhide HD2).2 hne0
      have hcl := (unhide HD1).len j hjd
      have h1 := hc1 j hjd
      have h2 := hc2 j hjd
      obtain ⟨ch, hch⟩ : ∃ ch, ds.getD j [] = ch := ⟨_, rfl⟩
      rw [hch] at h1 h2 hcl
      have hC : ∀ w', (∃ p : Regrown, w' = Sort.grow (redrawn wr p.d) p.os) → Below w.heap.size w w' := fun w' ⟨p, hp⟩ => by
        rw [hp]; exact hb.trans ((below_regrown wr p.d p.os).mono hb.size)
      have r1 : Hid (∀ w', (∃ p : Regrown, w' = Sort.grow (redrawn wr p.d) p.os) → w'.rangeAt b1 (off1 + j * 32) (Lib.byteCells ch)) := fun w' hw' => rangeAt_below h1 (hC w' hw') hz1
      have r2 : Hid (∀ w', (∃ p : Regrown, w' = Sort.grow (redrawn wr p.d) p.os) → w'.rangeAt b2 (off2 + j * 32) (Lib.byteCells ch)) := fun w' hw' => rangeAt_below h2 (hC w' hw') hz2
      have hil : (Tryd.prog.info? 24).map (·.size) = some (Lib.byteCells ch).length := by rw [Lib.byteCells_length, hcl]; kernel_rfl
      have hne : ∀ w, (binOp .neq 24 (.agg (Lib.byteCells ch).toArray) (.agg (Lib.byteCells ch).toArray)).run Tryd.prog w = .ok (.bool false) w := dig_neq ch hcl
      have HB := hide hb
      clear hC hz1 hz2 hch h1 h2 hc1 hc2 hne0 hjd hb hcl
      go_wp2_with fail
      refine wp_region_below mixed (by kernel_rfl) ?_
      quiet_step (fail)
      quiet_step (fail)
      quiet_step (fail)
      refine wpQuiet_load_mid rfl 24 (.tmp 18) rfl b1 (off1 + j * 32) rfl (Lib.byteCells ch) _ (unhide r1) Tryd.underlying24 rfl hil ?_
      quiet_step (fail)
      quiet_step (fail)
      quiet_step (fail)
      refine wpQuiet_load_mid rfl 24 (.tmp 22) rfl b2 (off2 + j * 32) rfl (Lib.byteCells ch) _ (unhide r2) Tryd.underlying24 rfl hil ?_
      quiet_step (fail)
      refine wpQuiet_nil ?_
      intro w3 hb3
      clear hne hil r1 r2
      have hb4 := (unhide HB).trans (hb3.mono (unhide HB).size)
      go_wp2
      go_roundw
      case rel => exact ⟨j + 1, by omega, by go_num, hb4⟩
      case measure => simp [intOf]; omega
    · have hd : decide (j < n) = false := by simpa using hlt
      go_wp2
      go_ret
      exact ⟨rfl, hb⟩
end Go.Proofs.YtkioomojdahjlaaDoor

namespace Go.Proofs.YtkioomojdahjlaaDoor
open Go Go.RowKit
set_option linter.unusedSimpArgs false
set_option linter.unusedVariables false

def pBr (ds : List (List UInt8)) (x : Int) : List (List UInt8) := if 0 ≤ x ∧ x < (ds.length : Int) then pBranch ds x.toNat else []
def pBrE (ds : List (List UInt8)) (x : Int) : Int := if 0 ≤ x ∧ x < (ds.length : Int) then 0 else 2
theorem DL_nil (w : World) (p : Option Addr) : DL w p [] := ⟨fun d hd => by simp at hd, fun h => absurd rfl h⟩
theorem pBr_len (ds : List (List UInt8)) (x : Int) : (pBr ds x).length ≤ 32 := by
  unfold pBr; split
  · rw [pBranch_length]; exact Nat.le_refl _
  · simp
theorem mbranch_any (ds : List (List UInt8)) (p : Option Addr) (cap : Nat) (x : Int) (hlen : ds.length ≤ 4096) (w : World) (hD : DL w p ds) (tabs : Tabs w) :
    Calls Tryd.prog 17 #[.pointer none, .slice p ds.length cap, .int .i64 x] w fun e w' => (∃ g c, e = .returned (.tuple #[.slice g (pBr ds x).length c, .int .i64 (pBrE ds x)]) ∧ DL w' g (pBr ds x)) ∧ Below w.heap.size w w' := by
  by_cases h : 0 ≤ x ∧ x < (ds.length : Int)
  · obtain ⟨n, rfl⟩ := Int.eq_ofNat_of_zero_le h.1
    rw [pBr, if_pos h, pBrE, if_pos h, Int.toNat_natCast, pBranch_length]
    refine (branch_calls ds p cap n (by omega) hlen w hD tabs).mono ?_
    rintro e w' ⟨⟨g, c, rfl, _, _, d⟩, b⟩
    exact ⟨⟨_, _, rfl, d⟩, b⟩
  · rw [pBr, if_neg h, pBrE, if_neg h]
    refine (branch_arg ds p cap x (by omega) w).mono ?_
    rintro e w' ⟨rfl, rfl⟩
    exact ⟨⟨none, 0, rfl, DL_nil _ _⟩, Below.refl _ _⟩
theorem rbranch_any (ds : List (List UInt8)) (p : Option Addr) (cap : Nat) (x : Int) (hlen : ds.length ≤ 4096) (w : World) (hD : DL w p ds) :
    Calls Tryd.prog 18 #[.pointer none, .slice p ds.length cap, .int .i64 x] w fun e w' => (∃ g c, e = .returned (.tuple #[.slice g (pBr ds x).length c, .int .i64 (pBrE ds x)]) ∧ DL w' g (pBr ds x)) ∧ Below w.heap.size w w' := by
  by_cases h : 0 ≤ x ∧ x < (ds.length : Int)
  · obtain ⟨n, rfl⟩ := Int.eq_ofNat_of_zero_le h.1
    rw [pBr, if_pos h, pBrE, if_pos h, Int.toNat_natCast, pBranch_length]
    refine (rbranch_calls ds p cap n (by omega) hlen w hD).mono ?_
    rintro e w' ⟨⟨g, c, rfl, _, d⟩, b⟩
    exact ⟨⟨_, _, rfl, d⟩, b⟩
  · rw [pBr, if_neg h, pBrE, if_neg h]
    refine (rbranch_arg ds p cap x (by omega) w).mono ?_
    rintro e w' ⟨rfl, rfl⟩
    exact ⟨⟨none, 0, rfl, DL_nil _ _⟩, Below.refl _ _⟩
set_option maxHeartbeats 4000000 in
set_option maxRecDepth 100000 in
theorem merkleBranches_walk (ds : List (List UInt8)) (hds : ds.length ≤ 9223372036854775807) (p : Option Addr) (cap : Nat) (x : Int) (root leaf : List UInt8) (hr : root.length = 32) (hl : leaf.length = 32) (y : Nat) (hy : y < 4294967296) (bs : List (List UInt8)) (hbs : bs.length ≤ 9223372036854775807) (p1 : Option Addr) (cap1 : Nat) (w : World) (hD : DL w p ds) (hB : DL w p1 bs) (tabs : Tabs w) :
    Calls Tryd.prog 5 #[.slice p ds.length cap, .int .i64 x, .agg (bc root), .agg (bc leaf), .int .u32 (y : Int), .slice p1 bs.length cap1] w fun e w' => e = .returned (.bool true) ∧ Below w.heap.size w w' := by
  have A := hide fun W t => mawake_calls W t
  have A2 := hide (al2 w (.cells (bc root) 24) (.cells (bc leaf) 24))
  have B2 := hide (bel2 w (.cells (bc root) 24) (.cells (bc leaf) 24))
  obtain ⟨X, hX⟩ : ∃ X, (w.alloc (.cells (bc root) 24)).alloc (.cells (bc leaf) 24) = X := ⟨_, rfl⟩
  rw [hX] at A2 B2
  have HX := hide hX
  have HT := hide tabs
  have tX := hide (tabs.below (unhide B2) (Nat.le_refl _))
  have hir := digInfo root hr
  have hil := digInfo leaf hl
  by_cases hs : ds.length ≤ 60 ∧ bs.length ≤ 100
  case neg =>
    have hd : decide ((60 : Int) < (ds.length : Int)) = true ∨ (decide ((60 : Int) < (ds.length : Int)) = false ∧ decide ((100 : Int) < (bs.length : Int)) = true) := by
      by_cases h : ds.length ≤ 60
      · exact .inr ⟨by simp; omega, by simp; omega⟩
      · exact .inl (by simp; omega)
    obtain ⟨n, hn⟩ : ∃ n, ds.length = n := ⟨_, rfl⟩
    obtain ⟨m, hm⟩ : ∃ m, bs.length = m := ⟨_, rfl⟩
    rw [hn, hm] at hd
    rw [hn, hm]
    clear hn hm hs hX hD hB hds hbs
    go_enter Tryd.func5, Tryd.ntmps5
    rcases hd with hd | ⟨hd, hd2⟩
    all_goals
      go_wp2_with (rw [unhide HX])
      refine (unhide A _ (unhide tX)).mono ?_
      rintro e w1 ⟨rfl, b1⟩
      have bW1 := (unhide B2).trans (b1.mono (unhide B2).size)
      go_wp2_with go_skip
      refine (unhide A _ ((unhide HT).below bW1 (Nat.le_refl _))).mono ?_
      rintro e w2 ⟨rfl, b2⟩
      go_wp2_with fail
      go_ret
      exact ⟨rfl, bW1.trans (b2.mono bW1.size)⟩
  obtain ⟨hs1, hs2⟩ := hs
  have hd1 : decide ((60 : Int) < (ds.length : Int)) = false := by simp; omega
  have hd2 : decide ((100 : Int) < (bs.length : Int)) = false := by simp; omega
  have CB := hide fun W (hW : Below w.heap.size w W) => mbranch_any ds p cap x (by omega) W (hD.below hW (Nat.le_refl _)) ((unhide HT).below hW (Nat.le_refl _))
  have CR := hide fun W (hW : Below w.heap.size w W) => rbranch_any ds p cap x (by omega) W (hD.below hW (Nat.le_refl _))
  have CC := hide fun W (hW : Below w.heap.size w W) => climb_calls leaf hl y hy bs p1 cap1 (by omega) W (hB.below hW (Nat.le_refl _)) ((unhide HT).below hW (Nat.le_refl _))
  have CD := hide fun W (hW : Below w.heap.size w W) => rclimb_calls leaf hl y hy bs p1 cap1 (by omega) W (hB.below hW (Nat.le_refl _))
  have CP := hide fun W (hW : Below w.heap.size w W) => proves_calls root leaf hr hl y hy bs p1 cap1 (by omega) W (hB.below hW (Nat.le_refl _)) ((unhide HT).below hW (Nat.le_refl _))
  have CQ := hide fun W (hW : Below w.heap.size w W) => rproves_calls root leaf hr hl y hy bs p1 cap1 (by omega) W (hB.below hW (Nat.le_refl _))
  have hbl := pBr_len ds x
  have CS := hide fun g1 c1 g2 c2 W (h1 : DL W g1 (pBr ds x)) (h2 : DL W g2 (pBr ds x)) => sameDL_calls g1 g2 c1 c2 (pBr ds x) (by omega) W h1 h2
  have hTl := pClimb_length leaf y bs hl (min bs.length 32)
  have he := hide (dig_refl _ hTl)
  obtain ⟨n, hn⟩ : ∃ n, ds.length = n := ⟨_, rfl⟩
  obtain ⟨m, hm⟩ : ∃ m, bs.length = m := ⟨_, rfl⟩
  generalize pClimb leaf y bs (min bs.length 32) = T at *
  generalize pProves root leaf y bs = P at *
  generalize pBrE ds x = E at *
  generalize pBr ds x = BR at *
  rw [hn] at hd1 CB CR
  rw [hm] at hd2 CC CD CP CQ
  rw [hn, hm]
  obtain ⟨k, hk⟩ : ∃ k, BR.length = k := ⟨_, rfl⟩
  rw [hk] at CB CR CS
  clear hn hm hk hX hD hB hds hbs hbl hTl hs1 hs2 hr hl hy tabs
  go_enter Tryd.func5, Tryd.ntmps5
  go_wp2_with (rw [unhide HX])
  refine (unhide A _ (unhide tX)).mono ?_
  rintro e w1 ⟨rfl, b1⟩
  have bW1 := (unhide B2).trans (b1.mono (unhide B2).size)
  have q1 := Below.at b1 (Array.getElem?_eq_some_iff.1 (unhide A2).1).1 (unhide A2).1
  have r1 := Below.at b1 (Array.getElem?_eq_some_iff.1 (unhide A2).2).1 (unhide A2).2
  clear b1 A2 B2 tX HX
  go_wp2_with go_skip
  refine (unhide CB _ bW1).mono ?_
  rintro e w2 ⟨⟨g1, c1, rfl, d1⟩, b2⟩
  have bW2 := bW1.trans (b2.mono bW1.size)
  have q2 := Below.at b2 (Array.getElem?_eq_some_iff.1 q1).1 q1
  have r2 := Below.at b2 (Array.getElem?_eq_some_iff.1 r1).1 r1
  clear b2 q1 r1 bW1
  go_wp2_with fail
  refine (unhide CR _ bW2).mono ?_
  rintro e w3 ⟨⟨g2, c2, rfl, d3⟩, b3⟩
  have bW3 := bW2.trans (b3.mono bW2.size)
  have q3 := Below.at b3 (Array.getElem?_eq_some_iff.1 q2).1 q2
  have r3 := Below.at b3 (Array.getElem?_eq_some_iff.1 r2).1 r2
  have d1' := d1.below b3 (Nat.le_refl _)
  clear b3 q2 r2 bW2 d1
  have RX : Hid (∀ w', (∃ p : Regrown, w' = Sort.grow (redrawn w3 p.d) p.os) → w'.heap[w.heap.size]? = some (.cells (bc root) 24 (0, 0))) := fun w' ⟨p, hp⟩ => by rw [hp]; exact Below.at (below_regrown w3 p.d p.os) (Array.getElem?_eq_some_iff.1 q3).1 q3
  have RY : Hid (∀ w', (∃ p : Regrown, w' = Sort.grow (redrawn w3 p.d) p.os) → w'.heap[w.heap.size + 1]? = some (.cells (bc leaf) 24 (0, 0))) := fun w' ⟨p, hp⟩ => by rw [hp]; exact Below.at (below_regrown w3 p.d p.os) (Array.getElem?_eq_some_iff.1 r3).1 r3
  have BZ : Hid (∀ d os, Below w.heap.size w (Sort.grow (redrawn w3 d) os)) := fun d os => bW3.trans ((below_regrown w3 d os).mono bW3.size)
  have kA := hide fun d os => Calls.regrown_of (w := w3) (d := d) (os := os) (unhide A _ ((unhide HT).below (unhide BZ d os) (Nat.le_refl _)))
  have kS := hide fun d os => Calls.regrown_of (w := w3) (d := d) (os := os) (unhide CS g1 c1 g2 c2 _ (d1'.below (below_regrown w3 d os) (Nat.le_refl _)) (d3.below (below_regrown w3 d os) (Nat.le_refl _)))
  have kC := hide fun d os => Calls.regrown_of (w := w3) (d := d) (os := os) (unhide CC _ (unhide BZ d os))
  have kD := hide fun d os => Calls.regrown_of (w := w3) (d := d) (os := os) (unhide CD _ (unhide BZ d os))
  have kP := hide fun d os => Calls.regrown_of (w := w3) (d := d) (os := os) (unhide CP _ (unhide BZ d os))
  have kQ := hide fun d os => Calls.regrown_of (w := w3) (d := d) (os := os) (unhide CQ _ (unhide BZ d os))
  clear q3 r3 d1' d3 CS CC CD CP CQ CB CR
  go_wp2_with fail
  refine wp_region_below mixed (by kernel_rfl) ?_
  quiet_step (exact unhide kA _ _)
  go_big_quiet_step (fail)
  go_big_quiet_step (fail)
  go_big_quiet_step (fail)
  quiet_step (exact unhide kS _ _)
  go_big_quiet_step (fail)
  go_big_quiet_step (fail)
  go_big_quiet_step (fail)
  go_big_quiet_step (fail)
  go_big_quiet_step (fail)
  go_big_quiet_step (fail)
  go_big_quiet_step (fail)
  refine wpQuiet_load_row rfl 24 (.tmp 9) rfl (w.heap.size + 1) rfl 24 _ (0, 0) _ (unhide RY) Tryd.underlying24 rfl hil ?_
  quiet_step (fail)
  go_big_quiet_step (fail)
  quiet_step (exact unhide kC _ _)
  refine wpQuiet_load_row rfl 24 (.tmp 9) rfl (w.heap.size + 1) rfl 24 _ (0, 0) _ (unhide RY) Tryd.underlying24 rfl hil ?_
  quiet_step (fail)
  go_big_quiet_step (fail)
  quiet_step (exact unhide kD _ _)
  refine wpQuiet_eql rfl 24 24 (.tmp 55) (.tmp 59) rfl _ _ rfl rfl (by kernel_rfl) true (unhide he) ?_
  quiet_step (fail)
  go_big_quiet_step (fail)
  refine wpQuiet_load_row rfl 24 (.tmp 8) rfl w.heap.size rfl 24 _ (0, 0) _ (unhide RX) Tryd.underlying24 rfl hir ?_
  refine wpQuiet_load_row rfl 24 (.tmp 9) rfl (w.heap.size + 1) rfl 24 _ (0, 0) _ (unhide RY) Tryd.underlying24 rfl hil ?_
  quiet_step (fail)
  go_big_quiet_step (fail)
  quiet_step (exact unhide kP _ _)
  refine wpQuiet_load_row rfl 24 (.tmp 8) rfl w.heap.size rfl 24 _ (0, 0) _ (unhide RX) Tryd.underlying24 rfl hir ?_
  refine wpQuiet_load_row rfl 24 (.tmp 9) rfl (w.heap.size + 1) rfl 24 _ (0, 0) _ (unhide RY) Tryd.underlying24 rfl hil ?_
  quiet_step (fail)
  go_big_quiet_step (fail)
  quiet_step (exact unhide kQ _ _)
  repeat (go_big_quiet_step (fail))
  refine wpQuiet_nil ?_
  intro V hbV
  go_wp2
  go_ret
  exact ⟨rfl, bW3.trans (hbV.mono bW3.size)⟩
end Go.Proofs.YtkioomojdahjlaaDoor

namespace Go.Proofs.YtkioomojdahjlaaDoor
open Go.ChangeShapes Go.WideShapes Go.ChangeAt Go.RowKit

theorem shaOwn : ownKnob Tryd.prog.godebug = none := by kernel_rfl
theorem shaLaidOut : laidOutB Tryd.prog = true := by kernel_rfl
theorem gFirst : Tryd.prog.globalNamed "pontoon/sha.firstWords" = some 0 := by kernel_rfl
theorem gFirstType : (Tryd.prog.globals[0]?).map (·.type) = some 77 := by kernel_rfl
theorem gRound : Tryd.prog.globalNamed "pontoon/sha.roundWords" = some 1 := by kernel_rfl
theorem gRoundType : (Tryd.prog.globals[1]?).map (·.type) = some 114 := by kernel_rfl
theorem cells64 : Tryd.prog.cellsOf 114 = 64 := by kernel_rfl
theorem cells8 : Tryd.prog.cellsOf 77 = 8 := by kernel_rfl
theorem cellsW : Tryd.prog.cellsOf 22 = 1 := by kernel_rfl

/-- What a row lists of package sha. -/
def shaListed : List (String × DataW Unit) := [("pontoon/sha.firstWords", Rows.laid_pontoon_sha_firstWords), ("pontoon/sha.roundWords", Rows.laid_pontoon_sha_roundWords)]
def kInts : List Int := [1116352408, 1899447441, 3049323471, 3921009573, 961987163, 1508970993, 2453635748, 2870763221, 3624381080, 310598401, 607225278, 1426881987, 1925078388, 2162078206, 2614888103, 3248222580, 3835390401, 4022224774, 264347078, 604807628, 770255983, 1249150122, 1555081692, 1996064986, 2554220882, 2821834349, 2952996808, 3210313671, 3336571891, 3584528711, 113926993, 338241895, 666307205, 773529912, 1294757372, 1396182291, 1695183700, 1986661051, 2177026350, 2456956037, 2730485921, 2820302411, 3259730800, 3345764771, 3516065817, 3600352804, 4094571909, 275423344, 430227734, 506948616, 659060556, 883997877, 958139571, 1322822218, 1537002063, 1747873779, 1955562222, 2024104815, 2227730452, 2361852424, 2428436474, 2756734187, 3204031479, 3329325298]
def hInts : List Int := [1779033703, 3144134277, 1013904242, 2773480762, 1359893119, 2600822924, 528734635, 1541459225]
theorem kInts_at : ∀ j, j < 64 → kInts.getD j 0 = ((kWords.getD j 0).toNat : Int) := by decide +kernel
theorem hInts_at : ∀ j, j < 8 → hInts.getD j 0 = ((hWords.getD j 0).toNat : Int) := by decide +kernel

theorem tabs_of {W : World} (h : laidMetH Tryd.prog shaListed W) : Tabs W := by
  have h1 : Lib.TabIs Tryd.prog W "pontoon/sha.firstWords" .u32 hInts :=
    Lib.tabIs_of_head (rest := [("pontoon/sha.roundWords", Rows.laid_pontoon_sha_roundWords)]) gFirst gFirstType Tryd.underlying77 Tryd.underlying22 cellsW cells8 h
  have e : shaListed.filter (fun x => x.1 == "pontoon/sha.roundWords") = [("pontoon/sha.roundWords", Rows.laid_pontoon_sha_roundWords)] := by kernel_rfl
  have hf := h.filter (fun x => x.1 == "pontoon/sha.roundWords")
  rw [e] at hf
  have h2 : Lib.TabIs Tryd.prog W "pontoon/sha.roundWords" .u32 kInts :=
    Lib.tabIs_of_head (rest := []) gRound gRoundType Tryd.underlying114 Tryd.underlying22 cellsW cells64 hf
  have k : ∀ j, j < 64 → W.cell? ⟨1, j, none⟩ = some (.int .u32 ((kWords.getD j 0).toNat : Int)) := fun j hj => by
    rw [← kInts_at j hj]; exact h2.cell gRound j (by simpa [kInts] using hj)
  have hh : ∀ j, j < 8 → W.cell? ⟨0, j, none⟩ = some (.int .u32 ((hWords.getD j 0).toNat : Int)) := fun j hj => by
    rw [← hInts_at j hj]; exact h1.cell gFirst j (by simpa [hInts] using hj)
  exact ⟨⟨block_lt_of_cell (hh 0 (by decide)), block_lt_of_cell (k 0 (by decide))⟩, k, hh⟩

/-- A variable's cells turned. -/
def layCells (cs : Array Value) : Obj → Obj
  | .cells _ t frozen => .cells cs t frozen
  | o => o
def hCells : Array Value := #[.int .u32 1779033703, .int .u32 3144134277, .int .u32 1013904242, .int .u32 2773480762, .int .u32 1359893119, .int .u32 2600822924, .int .u32 528734635, .int .u32 1541459225]
def kCells : Array Value := #[.int .u32 1116352408, .int .u32 1899447441, .int .u32 3049323471, .int .u32 3921009573, .int .u32 961987163, .int .u32 1508970993, .int .u32 2453635748, .int .u32 2870763221, .int .u32 3624381080, .int .u32 310598401, .int .u32 607225278, .int .u32 1426881987, .int .u32 1925078388, .int .u32 2162078206, .int .u32 2614888103, .int .u32 3248222580, .int .u32 3835390401, .int .u32 4022224774, .int .u32 264347078, .int .u32 604807628, .int .u32 770255983, .int .u32 1249150122, .int .u32 1555081692, .int .u32 1996064986, .int .u32 2554220882, .int .u32 2821834349, .int .u32 2952996808, .int .u32 3210313671, .int .u32 3336571891, .int .u32 3584528711, .int .u32 113926993, .int .u32 338241895, .int .u32 666307205, .int .u32 773529912, .int .u32 1294757372, .int .u32 1396182291, .int .u32 1695183700, .int .u32 1986661051, .int .u32 2177026350, .int .u32 2456956037, .int .u32 2730485921, .int .u32 2820302411, .int .u32 3259730800, .int .u32 3345764771, .int .u32 3516065817, .int .u32 3600352804, .int .u32 4094571909, .int .u32 275423344, .int .u32 430227734, .int .u32 506948616, .int .u32 659060556, .int .u32 883997877, .int .u32 958139571, .int .u32 1322822218, .int .u32 1537002063, .int .u32 1747873779, .int .u32 1955562222, .int .u32 2024104815, .int .u32 2227730452, .int .u32 2361852424, .int .u32 2428436474, .int .u32 2756734187, .int .u32 3204031479, .int .u32 3329325298]
/-- A world for the witness: the settled one, the two tables holding what their initialisers lay. -/
noncomputable def shaWorld (os : Os) : World :=
  { World.holding Tryd.prog os ⟨#[], #[], []⟩ with heap := ((World.holding Tryd.prog os ⟨#[], #[], []⟩).heap.modify 0 (layCells hCells)).modify 1 (layCells kCells) }
theorem addr_add (b o j : Nat) : (⟨b, o, none⟩ : Addr).add j = ⟨b, o + j, none⟩ := by unfold Addr.add; split <;> simp_all

end Go.Proofs.YtkioomojdahjlaaDoor

namespace Go.Proofs.YtkioomojdahjlaaDoor
open Go.ChangeShapes Go.WideShapes Go.ChangeAt Go.RowKit

theorem mapM_ints {H : Type} {enc : TypeId × Value → H} {P : Program} {W : World} {base : Nat} {sp : Nat → Bool} {held : Bool} {e : TypeId} {q : IntKind} (he : P.underlying e = some (.int q)) {m : Nat} {cs : List Value} {c : Nat} :
    ∀ (L : List Nat) (xs : List (DataW H × List MemPlace)), L.mapM (fun i => DataW.trod enc P W base sp held m e ((cs.drop (i * c)).take c)) = some xs → ∀ i ∈ L, ∃ a, (cs.drop (i * c)).take c = [.int q a] ∧ (Lit.int q a).wf = true
  | [], xs, h => by intro i hi; cases hi
  | i :: L, xs, h => by
    rw [List.mapM_cons] at h
    simp only [bind, Option.bind_eq_some_iff, pure, Option.some.injEq] at h
    obtain ⟨y, hy, ys, hys, rfl⟩ := h
    intro j hj
    rcases List.mem_cons.1 hj with rfl | hj
    · obtain ⟨a, ea, _, wa⟩ := DataW.trod_int he hy
      exact ⟨a, ea, wa⟩
    · exact mapM_ints he L ys hys j hj
/-- The numbers of an array that came in. -/
theorem open_numbers {H : Type} {enc : TypeId × Value → H} {P : Program} {W : World} {base : Nat} {sp : Nat → Bool} {held : Bool} {k e : TypeId} {n : Nat} {q : IntKind} (A : WideMaps.ArrKey P k e n) (he : P.underlying e = some (.int q))
    {xs : Array Value} (hn : xs.size = n) {d : DataW H} {ps : List MemPlace} (hd : DataW.Trod enc P W base sp held k (.agg xs) d ps) :
    ∃ zs : List Int, zs.length = n ∧ xs = (zs.map (Value.int q)).toArray ∧ ∀ z ∈ zs, (Lit.int q z).wf = true := by
  obtain ⟨fuel, hf⟩ := hd
  cases fuel with
  | zero => simp [DataW.trod] at hf
  | succ m =>
    rw [DataW.trod_step] at hf
    unfold DataW.trodStep at hf
    simp only [A.hu, Value.cells] at hf
    rw [if_pos (by rw [A.size]; simpa using hn)] at hf
    simp only [Option.map_eq_some_iff] at hf
    obtain ⟨ys, hy, e1⟩ := hf
    have hc := mapM_ints he _ ys hy
    rw [A.one] at hc
    have hc' : ∀ i, i < n → ∃ a, xs.toList[i]? = some (.int q a) ∧ (Lit.int q a).wf = true := fun i hi => by
      obtain ⟨a, ha, hw⟩ := hc i (List.mem_range.2 hi)
      refine ⟨a, ?_, hw⟩
      rw [Nat.mul_one] at ha
      have h0 : ((xs.toList.drop i).take 1)[0]? = some (.int q a) := by rw [ha]; rfl
      simpa using h0
    refine ⟨xs.toList.map intOf, by simpa using hn, ?_, ?_⟩
    · apply Array.ext'
      simp only [List.map_map]
      apply List.ext_getElem?
      intro i
      by_cases hi : i < n
      · obtain ⟨a, ha, _⟩ := hc' i hi
        rw [ha]; simp [ha, intOf]
      · rw [List.getElem?_eq_none (by simpa [hn] using Nat.le_of_not_lt hi), List.getElem?_eq_none (by simpa [hn] using Nat.le_of_not_lt hi)]
    · intro z hz
      obtain ⟨v, hv, rfl⟩ := List.mem_map.1 hz
      obtain ⟨i, hi, rfl⟩ := List.getElem_of_mem hv
      obtain ⟨a, ha, hw⟩ := hc' i (by simpa [hn] using hi)
      rw [List.getElem?_eq_getElem hi] at ha
      rw [Option.some.inj ha]; exact hw
end Go.Proofs.YtkioomojdahjlaaDoor

namespace Go.Proofs.YtkioomojdahjlaaDoor
open Go.ChangeShapes Go.WideShapes Go.ChangeAt Go.RowKit
set_option linter.unusedVariables false

theorem arrD : WideMaps.ArrKey Tryd.prog 24 5 32 := ⟨Tryd.underlying24, by kernel_rfl, by kernel_rfl, by kernel_rfl⟩
theorem open_digest {H : Type} {enc : TypeId × Value → H} {W : World} {base : Nat} {sp : Nat → Bool} {held : Bool} {xs : Array Value} (hn : xs.size = 32) {d : DataW H} {ps : List MemPlace} (hd : DataW.Trod enc Tryd.prog W base sp held 24 (.agg xs) d ps) :
    ∃ l : List UInt8, xs = bc l ∧ l.length = 32 := by
  obtain ⟨zs, hl, rfl, hw⟩ := open_numbers arrD Tryd.underlying5 hn hd
  have e : ∀ z ∈ zs, ((UInt8.ofNat z.toNat).toNat : Int) = z := fun z hz => by
    have := hw z hz
    simp [Lit.wf, IntKind.min, IntKind.max, IntKind.signed, IntKind.bits] at this
    rw [UInt8.toNat_ofNat']; omega
  refine ⟨zs.map fun z => UInt8.ofNat z.toNat, ?_, by simpa using hl⟩
  unfold bc Lib.byteCells
  rw [List.map_map]
  congr 1
  apply List.map_congr_left
  intro z hz
  simp only [Function.comp_apply]
  rw [e z hz]
end Go.Proofs.YtkioomojdahjlaaDoor

namespace Go.Proofs.YtkioomojdahjlaaDoor
open Go.ChangeShapes Go.WideShapes Go.ChangeAt Go.RowKit
set_option linter.unusedVariables false

theorem open_dl {H : Type} {enc : TypeId × Value → H} {W : World} {base : Nat} {sp : Nat → Bool} {held : Bool} {v : Value} {d : DataW H} {ps : List MemPlace} (hd : DataW.Trod enc Tryd.prog W base sp held 39 v d ps) (hv : ∃ p n cap, v = .slice p n cap) :
    ∃ p ds cap, v = .slice p ds.length cap ∧ ds.length ≤ cap ∧ ds.length ≤ maxLen ∧ DL W p ds := by
  obtain ⟨p, n0, cap0, rfl⟩ := hv
  obtain ⟨fuel, h⟩ := hd
  have hc : Tryd.prog.cellsOf 24 = 32 := by kernel_rfl
  rcases Deep.open_slice Tryd.underlying39 h with ⟨e, _⟩ | ⟨a, len, cap, m, n, D, Pl, e, hb, hlc, hcm, hm, hx, hel⟩
  · simp [Value.cells] at e
    obtain ⟨rfl, rfl, rfl⟩ := e
    exact ⟨none, [], 0, rfl, by simp, by simp, ⟨fun d hd => by simp at hd, fun hn => absurd rfl hn⟩⟩
  · simp [Value.cells] at e
    obtain ⟨rfl, rfl, rfl⟩ := e
    have hlm : n0 ≤ m := by rw [hm]; split <;> omega
    rw [hc] at hel
    have each : ∀ i, i < n0 → ∃ l : List UInt8, l.length = 32 ∧ ∀ j, j < 32 → W.cell? (a.add (i * 32 + j)) = (bc l)[j]? := fun i hi => by
      obtain ⟨cs', h1, h2⟩ := hel i (by omega)
      obtain ⟨h3, h4, h5⟩ := World.cells?_some h1
      obtain ⟨l, hl, hll⟩ := open_digest (xs := cs'.toArray) (by simpa using h4) ⟨n, h2⟩
      refine ⟨l, hll, fun j hj => ?_⟩
      have h7 := h5 j hj
      rw [Deep.add_add] at h7
      rw [h7, ← hl]
      simp
    let F : Nat → List UInt8 := fun i => if h : i < n0 then Classical.choose (each i h) else List.replicate 32 0
    have hF : ∀ i (hi : i < n0), (F i).length = 32 ∧ ∀ j, j < 32 → W.cell? (a.add (i * 32 + j)) = (bc (F i))[j]? := fun i hi => by
      have : F i = Classical.choose (each i hi) := by show (if h : i < n0 then _ else _) = _; rw [dif_pos hi]
      rw [this]; exact Classical.choose_spec (each i hi)
    refine ⟨some a, (List.range n0).map F, cap0, by simp, by simpa using hlc, by simp; omega, ⟨fun d hd => ?_, fun hn => ?_⟩⟩
    · obtain ⟨i, hi, rfl⟩ := List.mem_map.1 hd
      exact (hF i (List.mem_range.1 hi)).1
    · have h0 : 0 < n0 := by
        rcases Nat.eq_zero_or_pos n0 with h | h
        · subst h; simp at hn
        · exact h
      obtain ⟨b, off, spot⟩ := a
      have hc0 : W.cell? ((⟨b, off, spot⟩ : Addr).add (0 * 32 + 0)) = some (.int .u8 (((F 0).getD 0 0).toNat : Int)) := by
        rw [(hF 0 h0).2 0 (by omega)]; exact bc_at _ _ (by rw [(hF 0 h0).1]; omega)
      have hspot : spot = none := by simpa [Addr.add] using World.cell?_spot hc0
      subst hspot
      refine ⟨b, off, rfl, ?_, fun i hi j v hv => ?_⟩
      · have := block_lt_of_cell hc0; simpa [Addr.add] using this
      · have hi' : i < n0 := by simpa using hi
        have e1 : ((List.range n0).map F).getD i [] = F i := by simp [hi']
        rw [e1] at hv
        have hj : j < 32 := by
          have := (List.getElem?_eq_some_iff.1 hv).1
          rw [Lib.byteCells_length, (hF i hi').1] at this
          exact this
        have h8 := (hF i hi').2 j hj
        have e2 : (⟨b, off, none⟩ : Addr).add (i * 32 + j) = ⟨b, off + i * 32 + j, none⟩ := by unfold Addr.add; split <;> simp_all [Nat.add_assoc]
        rw [e2] at h8
        rw [h8]
        simpa [bc] using hv
end Go.Proofs.YtkioomojdahjlaaDoor
