/-
  WHAT merkle's Of RETURNS: the root of leaves.
-/
/-
  WHAT merkle's Branch RETURNS: the neighbours on a leaf's way.
-/
/-
  THE TREE: each leaf's branch proves it. Plain lemmas over the digests' lists.
-/
/-
  BYTES STORED INTO A BLOCK THAT WAS JUST MADE: the world behind it is a letter of which all is known.
-/
/-
  layer 7's awake.
-/
/-
  TREES THAT ARE KEPT, AS ROWS OF MEMORY: a count, and the bytes of the branches behind it.
-/
/-
  WHAT merkle's Insert RETTryd.underlying27NS.
-/
/-
  WHAT merkle's Root RETTryd.underlying27NS.
-/
/-
  THE TREE THAT IS KEPT: its root is that of its leaves. Plain lemmas.
-/
/-
  WHAT THE DOCUMENT's OWN node, Of, Branch, Climb, Proves OF LAYER 7 RETURN, where there is no log.
-/
import Derived.Test.YtkioomojdahjlaaDoorJ3
namespace Go.Proofs.YtkioomojdahjlaaDoor
open Go Go.RowKit
set_option linter.unusedSimpArgs false
set_option linter.unusedVariables false

/-- The digests of a level, but for the noughts behind them. -/
def pLev (ds : List (List UInt8)) : Nat → List (List UInt8)
  | 0 => ds
  | k + 1 => pAbove (pLev ds k) (pNought k)
theorem pLev_len (ds : List (List UInt8)) : ∀ k, (pLev ds k).length ≤ ds.length
  | 0 => Nat.le_refl _
  | k + 1 => by
    have := pLev_len ds k
    show (pAbove _ _).length ≤ _
    rw [pAbove_length]
    by_cases h : (pLev ds k).length = 0
    · rw [h]; omega
    · omega
theorem pLev_32 (ds : List (List UInt8)) (h : ∀ d ∈ ds, d.length = 32) : ∀ k, ∀ d ∈ pLev ds k, d.length = 32
  | 0 => h
  | k + 1 => fun d hd => by
    obtain ⟨j, _, rfl⟩ := List.mem_map.1 hd
    exact aboveAt_length _ _ _
def pOfD (ds : List (List UInt8)) : List UInt8 := pStand (pLev (ds.take 4096) 32) 0 (pNought 32)
theorem DL.take {w : World} {p : Option Addr} {ds : List (List UInt8)} (h : DL w p ds) (n : Nat) : DL w p (ds.take n) := by
  refine ⟨fun d hd => h.1 d (List.mem_of_mem_take hd), fun hn => ?_⟩
  obtain ⟨b, off, rfl, hlt, hc⟩ := h.2 (by intro e; rw [e] at hn; simp at hn)
  refine ⟨b, off, rfl, hlt, fun i hi => ?_⟩
  have hi' : i < ds.length := by simp at hi; omega
  have hin : i < n := by simp at hi; omega
  have := hc i hi'
  simpa [List.getD, hi', hin] using this
set_option maxHeartbeats 4000000 in
set_option maxRecDepth 100000 in
theorem of_calls (ds : List (List UInt8)) (p : Option Addr) (cap : Nat) (hcap : ds.length ≤ cap) (hlen : ds.length ≤ 100000000) (w : World) (hD : DL w p ds) (tabs : Tabs w) :
    Calls Tryd.prog 13 #[.pointer none, .slice p ds.length cap] w fun e w' => e = .returned (.agg (bc (pOfD ds))) ∧ Below w.heap.size w w' := by
  have cf := fun w => mfirst_calls p ds.length cap hcap (by omega) w
  have htk : min ds.length 4096 = (ds.take 4096).length := by simp; omega
  rw [htk] at cf
  have hlen' : (ds.take 4096).length ≤ 4096 := by simp; omega
  have hD' := hD.take 4096
  have hO : pOfD ds = pStand (pLev (ds.take 4096) 32) 0 (pNought 32) := rfl
  generalize ds.take 4096 = es at *
  obtain ⟨R, hR⟩ : ∃ R, pOfD ds = R := ⟨_, rfl⟩
  rw [hR] at hO
  have hRl : R.length = 32 := by rw [hO]; exact pStand_length (pLev_32 es hD'.1 32) 0 _ (pNought_length 32)
  rw [hR]
  have A2 := hide (al2 w (.cells (bc (List.replicate 32 0)) 24) (.cells (bc (pNought 0)) 24))
  have B2 := hide (bel2 w (.cells (bc (List.replicate 32 0)) 24) (.cells (bc (pNought 0)) 24))
  have HI := hide (fun k => digInfo (pNought k) (pNought_length k))
  have HO := hide (fun k => bc_oneCell (pNought k))
  have hiR := digInfo R hRl
  have hzR := zeroSize R hRl
  have hoR := bc_oneCell R
  have HD := hide hD'
  have HT := hide tabs
  have HRe := hide hO
  have Hlen := hide hlen'
  have CF := hide cf
  clear hD hD' tabs hO hlen hcap cf hlen' hR hRl htk
  go_enter Tryd.func13, Tryd.ntmps13
  go_wp2_with fail
  refine (unhide CF _).mono ?_
  rintro e w1 ⟨rfl, hw1⟩
  subst hw1
  go_wp2
  obtain ⟨N, hN⟩ : ∃ N, w.heap.size = N := ⟨_, rfl⟩
  have HN := hide hN
  go_loopw [5, 9] (fun v i wr => ∃ k : Nat, k ≤ 32 ∧ i = .int .i64 (k : Int) ∧ Below N w wr ∧ wr.heap[N]? = some (.cells (bc (List.replicate 32 0)) 24 (0, 0)) ∧ wr.heap[N + 1]? = some (.cells (bc (pNought k)) 24 (0, 0)) ∧ ∃ q c, v = .slice q (pLev es k).length c ∧ (pLev es k).length ≤ 100000000 ∧ DL wr q (pLev es k) ∧ Far2 N q (pLev es k)) (fun _ i _ => 32 - (intOf i).toNat)
  case atStart =>
    subst hN
    exact ⟨0, by omega, rfl, unhide B2, (unhide A2).1, (unhide A2).2, p, cap, rfl, by have := unhide Hlen; show es.length ≤ _; omega, (unhide HD).below (unhide B2) (Nat.le_refl _), far2_of (unhide HD) (Nat.le_refl _)⟩
  case round =>
    obtain ⟨k, hk, rfl, hb, q0, q1, q, c, rfl, hll, hdl, hfar⟩ := hrel
    rw [hN]
    clear A2 B2
    by_cases hlt : k < 32
    · have hd : decide ((k : Int) < 32) = true := by simp; omega
      have hi := unhide HI k
      have hi1 := unhide HI (k + 1)
      have ho1 := unhide HO (k + 1)
      have hz1 : (bc (pNought k)).size = (bc (pNought (k + 1))).size := by rw [bc_size, bc_size, pNought_length, pNought_length]
      have tb := (unhide HT).below hb (by rw [← hN]; exact Nat.le_refl _)
      have hz : N + 1 < wr.heap.size := (Array.getElem?_eq_some_iff.1 q1).1
      have CA := hide (above_calls (pLev es k) q c (pNought k) (pNought_length k) hll wr hdl tb)
      have TB := hide tb
      have Q0 := hide q0
      have Q1 := hide q1
      have HB := hide hb
      have Hk := hide hlt
      have Hz := hide hz
      clear q0 q1 hb hlt hz tb hdl
      go_wp2_with (refine wpList_load_row rfl 24 (.tmp 6) rfl (N + 1) rfl 24 _ (0, 0) _ (unhide Q1) Tryd.underlying24 rfl hi ?_)
      refine (unhide CA).mono ?_
      rintro e w2 ⟨⟨g2, c2, rfl, hc2, hg2, hdl2⟩, hb2⟩
      have Hg2 : Hid (N + 1 < g2) := hide (by have := unhide Hz; omega)
      have p0 := Below.at hb2 (by have := unhide Hz; omega) (unhide Q0)
      have p1 := Below.at hb2 (unhide Hz) (unhide Q1)
      have bb : Below N w w2 := (unhide HB).trans (hb2.mono (by have := unhide Hz; omega))
      have tb2 := (unhide TB).below hb2 (Nat.le_refl _)
      have CN := hide (node_calls (pNought k) (pNought k) (pNought_length k) (pNought_length k) w2 tb2)
      have hz2 : N + 1 < w2.heap.size := by have := unhide Hz; have := hb2.size; omega
      have Hz2 := hide hz2
      have HDL := hide hdl2
      have P0 := hide p0
      have P1 := hide p1
      have BB := hide bb
      clear p0 p1 bb hb2 tb2 hdl2 hc2 hz2 CA hg2
      go_wp2_with (refine wpList_load_row rfl 24 (.tmp 6) rfl (N + 1) rfl 24 _ (0, 0) _ (unhide P1) Tryd.underlying24 rfl hi ?_)
      refine (unhide CN).mono ?_
      rintro e w3 ⟨rfl, hb3⟩
      have p0 := Below.at hb3 (by have := unhide Hz2; omega) (unhide P0)
      have p1 := Below.at hb3 (unhide Hz2) (unhide P1)
      have bb : Below N w w3 := (unhide BB).trans (hb3.mono (by have := unhide Hz2; omega))
      have hdl3 := (unhide HDL).below hb3 (Nat.le_refl _)
      have R0 := hide p0
      have R1 := hide p1
      have B3 := hide bb
      have HDL3 := hide hdl3
      have hz3 : Hid (N + 1 < w3.heap.size) := hide (by have := unhide Hz2; have := hb3.size; omega)
      clear p0 p1 bb hb3 hdl3 CN
      go_wp2_with (refine wpList_store_row rfl 24 (.tmp 6) (.tmp 18) rfl (N + 1) _ rfl rfl 24 _ (unhide R1) hi1 hz1 ho1 ?_)
      refine ⟨⟨k + 1, by have := unhide Hk; omega, by go_num, below_setRow (unhide B3) (by omega) _, ?_, ?_, some ⟨g2, 0, none⟩, c2, rfl, ?_, ?_, ?_⟩, by have := unhide Hk; simp [intOf]; omega⟩
      · rw [setRow_other _ _ _ _ (by omega)]; exact unhide R0
      · exact setRow_heap _ _ _ _ _ _ (unhide R1)
      · have := pLev_len es (k + 1); have := unhide Hlen; omega
      · exact (unhide HDL3).other (size_setRow _ _ _) (fun _ b off e => setRow_other _ _ _ _ (by simp at e; have := unhide Hg2; omega))
      · intro _ b off e
        simp at e
        have := unhide Hg2
        omega
    · have hd : decide ((k : Int) < 32) = false := by simp; omega
      have hkl : k = 32 := by omega
      subst hkl
      have hi := unhide HI 32
      have tb := (unhide HT).below hb (by rw [← hN]; exact Nat.le_refl _)
      have hz : N + 1 < wr.heap.size := (Array.getElem?_eq_some_iff.1 q1).1
      have cs := standing_calls (pLev es 32) q c 0 (pNought 32) (pNought_length 32) (by omega) wr hdl
      rw [← unhide HRe] at cs
      have CS := hide cs
      have Q0 := hide q0
      have Q1 := hide q1
      have HB := hide hb
      have Hz := hide hz
      generalize pNought 32 = NN at *
      generalize pLev es 32 = LL at *
      clear q0 q1 hb hlt hz tb hdl cs hfar
      rw [show ((32 : Nat) : Int) = 32 from rfl]
      go_wp2_with (refine wpList_load_row rfl 24 (.tmp 6) rfl (N + 1) rfl 24 _ (0, 0) _ (unhide Q1) Tryd.underlying24 rfl hi ?_)
      refine (unhide CS).mono ?_
      rintro e w2 ⟨rfl, hb2⟩
      have p0 := Below.at hb2 (by have := unhide Hz; omega) (unhide Q0)
      have bb : Below N w w2 := (unhide HB).trans (hb2.mono (by have := unhide Hz; omega))
      have P0 := hide p0
      have BB := hide bb
      clear p0 bb hb2
      go_wp2_with (refine wpList_store_row rfl 24 (.tmp 4) (.tmp 22) rfl N _ rfl rfl 24 _ (unhide P0) hiR hzR hoR ?_)
      exact bodyPost_ret (results_cell_row rfl _ _ N _ _ _ _ rfl (setRow_heap _ _ _ _ _ _ (unhide P0)) Tryd.underlying24 rfl hiR) rfl ⟨rfl, by rw [unhide HN]; exact below_setRow (unhide BB) (Nat.le_refl _) _⟩
end Go.Proofs.YtkioomojdahjlaaDoor

namespace Go.Proofs.YtkioomojdahjlaaDoor
open Go Go.RowKit
set_option linter.unusedSimpArgs false
set_option linter.unusedVariables false

theorem xor_one (M : Nat) (h : M < 9223372036854775808) : bits .xor .i64 (M : Int) 1 = ((M ^^^ 1 : Nat) : Int) := by
  have h63 : M ^^^ 1 < 2 ^ 63 := Nat.xor_lt_two_pow (by omega) (by omega)
  have h1 : (BitVec.ofInt 64 (M : Int)).toNat = M := by
    rw [BitVec.ofInt_natCast, BitVec.toNat_ofNat]; exact Nat.mod_eq_of_lt (by omega)
  have h2 : (BitVec.ofInt 64 (1 : Int)).toNat = 1 := by decide
  show IntKind.i64.wrap ((BitVec.ofInt 64 (M : Int) ^^^ BitVec.ofInt 64 (1 : Int)).toNat : Int) = _
  rw [BitVec.toNat_xor, h1, h2, IntKind.wrap_i64]
  omega
/-- The neighbours, level by level. -/
def sideAt (ds : List (List UInt8)) (x : Nat) (i : Nat) : List UInt8 := pStand (pLev ds i) ((x / 2 ^ i) ^^^ 1) (pNought i)
def pBranch (ds : List (List UInt8)) (x : Nat) : List (List UInt8) := (List.range 32).map (sideAt ds x)
theorem sideAt_length {ds : List (List UInt8)} (h : ∀ d ∈ ds, d.length = 32) (x i : Nat) : (sideAt ds x i).length = 32 := pStand_length (pLev_32 ds h i) _ _ (pNought_length i)
theorem pBranch_length (ds : List (List UInt8)) (x : Nat) : (pBranch ds x).length = 32 := by simp [pBranch]
set_option maxHeartbeats 400000 in
theorem branch_arg (ds : List (List UInt8)) (p : Option Addr) (cap : Nat) (x : Int) (hx : x < 0 ∨ (ds.length : Int) ≤ x) (w : World) :
    Calls Tryd.prog 17 #[.pointer none, .slice p ds.length cap, .int .i64 x] w fun e w' => e = .returned (.tuple #[.slice none 0 0, .int .i64 2]) ∧ w' = w := by
  have d : (decide (x < 0) = true) ∨ (decide (x < 0) = false ∧ decide ((ds.length : Int) ≤ x) = true) := by
    by_cases h : x < 0
    · exact .inl (by simpa using h)
    · exact .inr ⟨by simpa using h, by simp; omega⟩
  clear hx
  go_enter Tryd.func17, Tryd.ntmps17
  rcases d with d | ⟨d1, d2⟩
  all_goals
    go_wp2
    go_ret2
    exact ⟨rfl, rfl⟩
set_option maxHeartbeats 4000000 in
set_option maxRecDepth 100000 in
theorem branch_calls (ds : List (List UInt8)) (p : Option Addr) (cap : Nat) (x : Nat) (hx : x < ds.length) (hlen : ds.length ≤ 4096) (w : World) (hD : DL w p ds) (tabs : Tabs w) :
    Calls Tryd.prog 17 #[.pointer none, .slice p ds.length cap, .int .i64 (x : Int)] w fun e w' => (∃ g c, e = .returned (.tuple #[.slice (some ⟨g, 0, none⟩) 32 c, .int .i64 0]) ∧ 32 ≤ c ∧ w.heap.size ≤ g ∧ DL w' (some ⟨g, 0, none⟩) (pBranch ds x)) ∧ Below w.heap.size w w' := by
  have d1 : decide ((x : Int) < 0) = false := by simp
  have d2 : decide (ds.length ≤ x) = false := by simp; omega
  have d3 : decide ((4096 : Int) < (ds.length : Int)) = false := by simp; omega
  have mk : ∀ w, (Instr.makeSlice 39 (.int .i64 32) (.int .i64 32)).run Tryd.prog w = .ok (.slice (some ⟨w.heap.size, 0, none⟩) 32 32) (w.alloc (.cells (bc (List.replicate (32 * 32) 0)) 24)) := fun w => make_digests 32 (by decide) w
  have A2 := hide (al2 w (.cells (bc (List.replicate (32 * 32) 0)) 24) (.cells (bc (pNought 0)) 24))
  have B2 := hide (bel2 w (.cells (bc (List.replicate (32 * 32) 0)) 24) (.cells (bc (pNought 0)) 24))
  have HI := hide (fun k => digInfo (pNought k) (pNought_length k))
  have HO := hide (fun k => bc_oneCell (pNought k))
  obtain ⟨F, hF⟩ : ∃ F, sideAt ds x = F := ⟨_, rfl⟩
  have HFl : Hid (∀ j, (F j).length = 32) := hide (by rw [← hF]; exact sideAt_length hD.1 x)
  have HF := hide hF
  have hpb : pBranch ds x = (List.range 32).map F := by unfold pBranch; rw [hF]
  rw [hpb]
  have HD := hide hD
  have HT := hide tabs
  have Hlen := hide hlen
  have Hx := hide hx
  clear hD tabs hlen hx hF hpb
  go_enter Tryd.func17, Tryd.ntmps17
  go_wp2
  obtain ⟨N, hN⟩ : ∃ N, w.heap.size = N := ⟨_, rfl⟩
  have HN := hide hN
  go_loopw [9, 27] (fun v i wr => ∃ k : Nat, k ≤ 32 ∧ i = .int .i64 (k : Int) ∧ Below N w wr ∧ wr.heap[N]? = some (.cells (bc ((List.range k).flatMap F ++ List.replicate (32 * (32 - k)) 0)) 24 (0, 0)) ∧ wr.heap[N + 1]? = some (.cells (bc (pNought k)) 24 (0, 0)) ∧ ∃ q c, v = .slice q (pLev ds k).length c ∧ (pLev ds k).length ≤ 100000000 ∧ DL wr q (pLev ds k) ∧ Far2 N q (pLev ds k)) (fun _ i _ => 32 - (intOf i).toNat)
  case atStart =>
    subst hN
    exact ⟨0, by omega, rfl, unhide B2, (unhide A2).1, (unhide A2).2, p, cap, rfl, by have := unhide Hlen; show ds.length ≤ _; omega, (unhide HD).below (unhide B2) (Nat.le_refl _), far2_of (unhide HD) (Nat.le_refl _)⟩
  case round =>
    obtain ⟨k, hk, rfl, hb, q0, q1, q, c, rfl, hll, hdl, hfar⟩ := hrel
    rw [hN]
    clear A2 B2 mk
    by_cases hlt : k < 32
    · have hd : decide ((k : Int) < 32) = true := by simp; omega
      have hi := unhide HI k
      have hi1 := unhide HI (k + 1)
      have ho1 := unhide HO (k + 1)
      have hz1 : (bc (pNought k)).size = (bc (pNought (k + 1))).size := by rw [bc_size, bc_size, pNought_length, pNought_length]
      have tb := (unhide HT).below hb (by rw [← hN]; exact Nat.le_refl _)
      have hz : N + 1 < wr.heap.size := (Array.getElem?_eq_some_iff.1 q1).1
      have hFk : F k = pStand (pLev ds k) ((x / 2 ^ k) ^^^ 1) (pNought k) := by rw [← unhide HF]; rfl
      obtain ⟨B, hB⟩ : ∃ B, x / 2 ^ k = B := ⟨_, rfl⟩
      have hBl : B < 9223372036854775808 := by rw [← hB]; exact Nat.lt_of_le_of_lt (Nat.div_le_self _ _) (by have := unhide Hx; have := unhide Hlen; omega)
      have fB : (x : Int) / 2 ^ k = (B : Int) := by rw [← hB]; push_cast; rfl
      have fX := xor_one B hBl
      rw [hB] at hFk
      obtain ⟨Y, hY⟩ : ∃ Y, B ^^^ 1 = Y := ⟨_, rfl⟩
      rw [hY] at fX hFk
      have kS : Hid (∀ dd os, Calls Tryd.prog 30 #[.slice q (pLev ds k).length c, .int .i64 (Y : Int), .agg (bc (pNought k))] (Sort.grow (redrawn wr dd) os) fun e w'' => e = .returned (.agg (bc (F k))) ∧ ∃ p : Regrown, w'' = Sort.grow (redrawn wr p.d) p.os) := fun dd os => by
        rw [hFk]
        exact Calls.regrown_of (standing_calls (pLev ds k) q c Y (pNought k) (pNought_length k) (by omega) _ (hdl.below (below_regrown wr dd os) (Nat.le_refl _)))
      have R1 : Hid (∀ w', (∃ p : Regrown, w' = Sort.grow (redrawn wr p.d) p.os) → w'.heap[N + 1]? = some (.cells (bc (pNought k)) 24 (0, 0))) := fun w' ⟨p, hp⟩ => by
        rw [hp]; exact Below.at (below_regrown wr p.d p.os) hz q1
      have hput : Hid (putAt ((List.range k).flatMap F ++ List.replicate (32 * (32 - k)) 0) (k * 32) (F k) = (List.range (k + 1)).flatMap F ++ List.replicate (32 * (32 - (k + 1))) 0) := by
        rw [putAt_zeros _ _ _ _ (by rw [flat_len32 F (unhide HFl)]; omega) (by rw [unhide HFl]; omega), unhide HFl, List.range_succ, List.flatMap_append]
        rw [show 32 * (32 - k) - 32 = 32 * (32 - (k + 1)) by omega]
        exact hide (by simp)
      have hll2 : Hid (k * 32 + (F k).length ≤ ((List.range k).flatMap F ++ List.replicate (32 * (32 - k)) 0).length) := hide (by rw [List.length_append, flat_len32 F (unhide HFl), List.length_replicate, unhide HFl]; omega)
      have hiF := digInfo (F k) (unhide HFl k)
      have CA := hide (fun w2 h1 h2 => above_calls (pLev ds k) q c (pNought k) (pNought_length k) hll w2 h1 h2)
      have CN := hide (fun w2 h2 => node_calls (pNought k) (pNought k) (pNought_length k) (pNought_length k) w2 h2)
      have TB := hide tb
      have HDL := hide hdl
      have HFar := hide hfar
      have Q0 := hide q0
      have Q1 := hide q1
      have HB := hide hb
      have Hk := hide hlt
      have Hz := hide hz
      have b2 : (0 : Int) ≤ k ∧ (k : Int) < 32 := by omega
      generalize F k = FK at *
      clear q0 q1 hb hlt hz tb hdl hfar hFk hY hB hBl
      go_wp2_with fail
      refine wp_region_below_tail 10 mixed (by kernel_rfl) ?_
      simp only [List.take_succ_cons, List.take_zero, List.drop_succ_cons, List.drop_zero]
      quiet_step (fail)
      quiet_step (fail)
      quiet_step (fail)
      quiet_step (fail)
      quiet_step (fail)
      quiet_step (fail)
      quiet_step (fail)
      refine wpQuiet_load_row rfl 24 (.tmp 10) rfl (N + 1) rfl 24 _ (0, 0) _ (unhide R1) Tryd.underlying24 rfl hi ?_
      quiet_step (exact unhide kS _ _)
      quiet_step (fail)
      refine wpQuiet_nil ?_
      intro w2 hb2
      have p0 := Below.at hb2 (by have := unhide Hz; omega) (unhide Q0)
      have p1 := Below.at hb2 (unhide Hz) (unhide Q1)
      have bb : Below N w w2 := (unhide HB).trans (hb2.mono (by have := unhide Hz; omega))
      have dd2 := (unhide HDL).below hb2 (Nat.le_refl _)
      have zz2 : N + 1 < w2.heap.size := by have := unhide Hz; have := hb2.size; omega
      have P0 := hide p0
      have P1 := hide p1
      have BB := hide bb
      have D2 := hide dd2
      have Z2 := hide zz2
      clear p0 p1 bb hb2 dd2 zz2 R1 kS
      refine wpList_store_at rfl 24 (.tmp 39) (.tmp 38) rfl N (k * 32) _ FK 24 (by first | rfl | (simp; done)) rfl (unhide P0) (unhide hll2) hiF ?_
      intro w3 r1 r2 r3 r4
      rw [unhide hput] at r1
      have S0 := hide r1
      have S1 := hide ((r2 (N + 1) (by omega)).trans (unhide P1))
      have B3 := hide ((unhide BB).trans (r4 N (Nat.le_refl _)))
      have hdl3 := (unhide D2).other r3 (fun hne b off e => r2 b (by have := unhide HFar hne b off e; omega))
      have D3 := hide hdl3
      have tb3 := (unhide HT).below (unhide B3) (by rw [unhide HN]; exact Nat.le_refl _)
      have T3 := hide tb3
      have Z3 : Hid (N + 1 < w3.heap.size) := hide (by have := unhide Z2; omega)
      clear r1 r2 r3 r4 hdl3 tb3
      go_wp2_with (refine wpList_load_row rfl 24 (.tmp 10) rfl (N + 1) rfl 24 _ (0, 0) _ (unhide S1) Tryd.underlying24 rfl hi ?_)
      refine (unhide CA _ (unhide D3) (unhide T3)).mono ?_
      rintro e w4 ⟨⟨g4, c4, rfl, hc4, hg4, hdl4⟩, hb4⟩
      have p0 := Below.at hb4 (by have := unhide Z3; omega) (unhide S0)
      have p1 := Below.at hb4 (unhide Z3) (unhide S1)
      have bb : Below N w w4 := (unhide B3).trans (hb4.mono (by have := unhide Z3; omega))
      have tb4 := (unhide T3).below hb4 (Nat.le_refl _)
      have Hg4 : Hid (N + 1 < g4) := hide (by have := unhide Z3; omega)
      have V0 := hide p0
      have V1 := hide p1
      have B4 := hide bb
      have T4 := hide tb4
      have D4 := hide hdl4
      have Z4 : Hid (N + 1 < w4.heap.size) := hide (by have := unhide Z3; have := hb4.size; omega)
      clear p0 p1 bb tb4 hdl4 hc4 hg4 hb4
      go_wp2_with (refine wpList_load_row rfl 24 (.tmp 10) rfl (N + 1) rfl 24 _ (0, 0) _ (unhide V1) Tryd.underlying24 rfl hi ?_)
      refine (unhide CN _ (unhide T4)).mono ?_
      rintro e w5 ⟨rfl, hb5⟩
      have p0 := Below.at hb5 (by have := unhide Z4; omega) (unhide V0)
      have p1 := Below.at hb5 (unhide Z4) (unhide V1)
      have bb : Below N w w5 := (unhide B4).trans (hb5.mono (by have := unhide Z4; omega))
      have hdl5 := (unhide D4).below hb5 (Nat.le_refl _)
      have X0 := hide p0
      have X1 := hide p1
      have B5 := hide bb
      have D5 := hide hdl5
      clear p0 p1 bb hdl5 hb5
      go_wp2_with (refine wpList_store_row rfl 24 (.tmp 10) (.tmp 47) rfl (N + 1) _ rfl rfl 24 _ (unhide X1) hi1 hz1 ho1 ?_)
      refine ⟨⟨k + 1, by have := unhide Hk; omega, by go_num, below_setRow (unhide B5) (by omega) _, ?_, ?_, some ⟨g4, 0, none⟩, c4, rfl, ?_, ?_, ?_⟩, by have := unhide Hk; simp [intOf]; omega⟩
      · rw [setRow_other _ _ _ _ (by omega)]; exact unhide X0
      · exact setRow_heap _ _ _ _ _ _ (unhide X1)
      · have := pLev_len ds (k + 1); have := unhide Hlen; omega
      · exact (unhide D5).other (size_setRow _ _ _) (fun _ b off e => setRow_other _ _ _ _ (by simp at e; have := unhide Hg4; omega))
      · intro _ b off e
        simp at e
        have := unhide Hg4
        omega
    · have hd : decide ((k : Int) < 32) = false := by simp; omega
      have hkl : k = 32 := by omega
      rw [hkl, Nat.sub_self, Nat.mul_zero, List.replicate_zero, List.append_nil] at q0
      have Q0 := hide q0
      have HB := hide hb
      clear q0 q1 hb hkl hlt hdl hfar
      go_wp2
      go_ret2
      exact ⟨⟨N, 32, rfl, Nat.le_refl _, by rw [unhide HN]; exact Nat.le_refl _, DL_of_flat F (unhide HFl) 32 (unhide Q0)⟩, by rw [unhide HN]; exact unhide HB⟩
end Go.Proofs.YtkioomojdahjlaaDoor

namespace Go.Proofs.YtkioomojdahjlaaDoor
open Go Go.RowKit
set_option linter.unusedSimpArgs false
set_option linter.unusedVariables false

/-- What stands at a place of a level. -/
def st (ds : List (List UInt8)) : Nat → Nat → List UInt8
  | 0, i => pStand ds i (pNought 0)
  | k + 1, i => pNode (st ds k (2 * i)) (st ds k (2 * i + 1))
theorem stand_st (ds : List (List UInt8)) : ∀ k i, pStand (pLev ds k) i (pNought k) = st ds k i
  | 0, i => rfl
  | k + 1, i => by
    have ih := stand_st ds k
    show _ = pNode (st ds k (2 * i)) (st ds k (2 * i + 1))
    rw [← ih (2 * i), ← ih (2 * i + 1)]
    show pStand (pAbove (pLev ds k) (pNought k)) i (pNode (pNought k) (pNought k)) = _
    generalize pLev ds k = L
    generalize pNought k = z
    by_cases h : i < (L.length + 1) / 2
    · have e : pStand (pAbove L z) i (pNode z z) = aboveAt L z i := by
        unfold pStand
        rw [if_pos (by rw [pAbove_length]; exact h), pAbove_at L z i h]
      rw [e]
      unfold aboveAt
      have e2 : pStand L (2 * i) z = L.getD (2 * i) [] := by unfold pStand; rw [if_pos (by omega)]
      rw [e2]
    · have e : pStand (pAbove L z) i (pNode z z) = pNode z z := by
        unfold pStand
        rw [if_neg (by rw [pAbove_length]; exact h)]
      have e1 : pStand L (2 * i) z = z := by unfold pStand; rw [if_neg (by omega)]
      have e2 : pStand L (2 * i + 1) z = z := by unfold pStand; rw [if_neg (by omega)]
      rw [e, e1, e2]
theorem xor1 (B : Nat) : B ^^^ 1 = if B % 2 = 1 then B - 1 else B + 1 := by
  have h1 : (B ^^^ 1) / 2 = B / 2 := by rw [Nat.xor_div_two]; simp
  have h2 : (B ^^^ 1) % 2 ^ 1 = (B % 2 ^ 1) ^^^ (1 % 2 ^ 1) := Nat.xor_mod_two_pow
  rw [Nat.pow_one] at h2
  rcases Nat.mod_two_eq_zero_or_one B with h | h
  · rw [h] at h2
    rw [h, if_neg (by decide)]
    have h3 : (B ^^^ 1) % 2 = 1 := h2
    omega
  · rw [h] at h2
    rw [h, if_pos rfl]
    have h3 : (B ^^^ 1) % 2 = 0 := h2
    omega
theorem of_st (ds : List (List UInt8)) (h : ds.length ≤ 4096) : pOfD ds = st ds 32 0 := by
  unfold pOfD
  rw [List.take_of_length_le h, stand_st]
theorem branch_at (ds : List (List UInt8)) (x k : Nat) (hk : k < 32) : (pBranch ds x).getD k [] = st ds k ((x / 2 ^ k) ^^^ 1) := by
  unfold pBranch
  simp [hk, sideAt, stand_st]
theorem climb_st (ds : List (List UInt8)) (x : Nat) (leaf : List UInt8) (hl : leaf = st ds 0 x) : ∀ k, k ≤ 32 → pClimb leaf x (pBranch ds x) k = st ds k (x / 2 ^ k)
  | 0, _ => by rw [Nat.pow_zero, Nat.div_one]; exact hl
  | k + 1, hk => by
    have ih := climb_st ds x leaf hl k (by omega)
    have e : x / 2 ^ (k + 1) = x / 2 ^ k / 2 := by rw [Nat.pow_succ, ← Nat.div_div_eq_div_mul]
    show (if x / 2 ^ k % 2 = 1 then pNode ((pBranch ds x).getD k []) (pClimb leaf x (pBranch ds x) k) else pNode (pClimb leaf x (pBranch ds x) k) ((pBranch ds x).getD k [])) = _
    rw [branch_at ds x k (by omega), ih, e, xor1]
    generalize x / 2 ^ k = B
    show _ = pNode (st ds k (2 * (B / 2))) (st ds k (2 * (B / 2) + 1))
    by_cases h : B % 2 = 1
    · rw [if_pos h, if_pos h, show 2 * (B / 2) = B - 1 by omega, show B - 1 + 1 = B by omega]
    · rw [if_neg h, if_neg h, show 2 * (B / 2) = B by omega]
/-- Each leaf's branch proves it. -/
theorem branch_proves (ds : List (List UInt8)) (h : ds.length ≤ 4096) (x : Nat) (hx : x < ds.length) : pProves (pOfD ds) (ds.getD x []) x (pBranch ds x) = true := by
  unfold pProves
  rw [pBranch_length, of_st ds h]
  have e := climb_st ds x (ds.getD x []) (by show _ = pStand ds x _; unfold pStand; rw [if_pos hx]) 32 (Nat.le_refl _)
  rw [Nat.div_eq_of_lt (show x < 2 ^ 32 by omega)] at e
  rw [e]; simp
theorem of_nil : pOfD [] = pNought 32 := by
  rw [of_st [] (by simp)]
  have : ∀ k i, st [] k i = pNought k := fun k => by
    induction k with
    | zero => intro i; show pStand [] i _ = _; unfold pStand; simp
    | succ k ih => intro i; show pNode _ _ = _; rw [ih, ih]; rfl
  exact this 32 0
end Go.Proofs.YtkioomojdahjlaaDoor

namespace Go.Proofs.YtkioomojdahjlaaDoor
open Go.RowKit
set_option linter.unusedSimpArgs false
set_option linter.unusedVariables false

theorem wpList_store_new {P : Program} {ops : Array Oper} {rest : List Oper} {op : Oper} {a : Act} {Q : Exit → Act → World → Prop} (hgd : op.guard = none) (ty : TypeId) (x y : Operand) (ho : op.op = .store ty x y)
    (W0 : World) (Z : Array Value) (t : TypeId) (D : List UInt8) (hx : a.eval x = .pointer (some ⟨W0.heap.size, 0, none⟩)) (hy : a.eval y = .agg (bc D))
    (hi : (P.info? ty).map (·.size) = some (bc D).size) (hz : Z.size = (bc D).size)
    (h : ∀ w', w'.heap[W0.heap.size]? = some (.cells (bc D) t (0, 0)) → Below W0.heap.size W0 w' → w'.heap.size = W0.heap.size + 1 → wpList P ops Q rest (a.put op.dst undef) w') :
    wpList P ops Q (op :: rest) a (W0.alloc (.cells Z t)) := by
  refine wpList_store_row hgd ty x y ho W0.heap.size (bc D) hx hy t Z (al1 _ _) hi hz (bc_oneCell D) ?_
  exact h _ (setRow_heap _ _ _ _ _ _ (al1 W0 (.cells Z t))) (below_setRow ((Below.refl _ _).alloc (Nat.le_refl _) _) (Nat.le_refl _) _) (by rw [setRow_size, World.size_alloc])
end Go.Proofs.YtkioomojdahjlaaDoor

namespace Go.Proofs.YtkioomojdahjlaaDoor
open Go Go.RowKit
set_option linter.unusedSimpArgs false
set_option linter.unusedVariables false

def dig1 : List UInt8 := 1 :: List.replicate 31 0
def dig2 : List UInt8 := 2 :: List.replicate 31 0
theorem two_DL (w : World) : DL (w.alloc (.cells (bc (dig1 ++ dig2)) 24)) (some ⟨w.heap.size, 0, none⟩) [dig1, dig2] := by
  have h := DL_of_flat (w := w.alloc (.cells (bc (dig1 ++ dig2)) 24)) (t := 24) (fun i => if i = 0 then dig1 else dig2) (fun j => by split <;> rfl) 2 (al1 w _)
  exact h
set_option maxHeartbeats 1000000 in
set_option maxRecDepth 100000 in
theorem mawake_core (NN RR : List UInt8) (BR : List (List UInt8))
    (hN : ∀ (w : World), Tabs w → Calls Tryd.prog 11 #[.pointer none, .int .i64 32] w fun e w' => e = .returned (.agg (bc NN)) ∧ Below w.heap.size w w')
    (hO : ∀ (w : World), Tabs w → Calls Tryd.prog 13 #[.pointer none, .slice none 0 0] w fun e w' => e = .returned (.agg (bc NN)) ∧ Below w.heap.size w w')
    (e32 : ∀ w, (binOp .eql 24 (.agg (bc NN)) (.agg (bc NN))).run Tryd.prog w = .ok (.bool true) w)
    (hB : ∀ (w : World), DL (w.alloc (.cells (bc (dig1 ++ dig2)) 24)) (some ⟨w.heap.size, 0, none⟩) [dig1, dig2] → Tabs (w.alloc (.cells (bc (dig1 ++ dig2)) 24)) →
      Calls Tryd.prog 17 #[.pointer none, .slice (some ⟨w.heap.size, 0, none⟩) 2 2, .int .i64 1] (w.alloc (.cells (bc (dig1 ++ dig2)) 24)) fun e w' => (∃ g c, e = .returned (.tuple #[.slice (some ⟨g, 0, none⟩) 32 c, .int .i64 0]) ∧ 32 ≤ c ∧ (w.alloc (.cells (bc (dig1 ++ dig2)) 24)).heap.size ≤ g ∧ DL w' (some ⟨g, 0, none⟩) BR) ∧ Below (w.alloc (.cells (bc (dig1 ++ dig2)) 24)).heap.size (w.alloc (.cells (bc (dig1 ++ dig2)) 24)) w')
    (hOD : ∀ (w : World), DL (w.alloc (.cells (bc (dig1 ++ dig2)) 24)) (some ⟨w.heap.size, 0, none⟩) [dig1, dig2] → Tabs (w.alloc (.cells (bc (dig1 ++ dig2)) 24)) →
      Calls Tryd.prog 13 #[.pointer none, .slice (some ⟨w.heap.size, 0, none⟩) 2 2] (w.alloc (.cells (bc (dig1 ++ dig2)) 24)) fun e w' => e = .returned (.agg (bc RR)) ∧ Below (w.alloc (.cells (bc (dig1 ++ dig2)) 24)).heap.size (w.alloc (.cells (bc (dig1 ++ dig2)) 24)) w')
    (hP : ∀ p c (w : World), DL w p BR → Tabs w → Calls Tryd.prog 22 #[.pointer none, .agg (bc RR), .agg (bc dig2), .int .u32 1, .slice p 32 c] w fun e w' => e = .returned (.bool true) ∧ Below w.heap.size w w')
    (w : World) (tabs : Tabs w) : Calls Tryd.prog 6 #[] w fun e w' => e = .returned (.bool true) ∧ Below w.heap.size w w' := by
  have HT := hide tabs
  have HN := hide hN
  have HO := hide hO
  have HB := hide hB
  have HOD := hide hOD
  have HP := hide hP
  clear tabs hN hO hB hOD hP
  go_enter Tryd.func6, Tryd.ntmps6
  go_wp2_with fail
  change Calls _ _ #[.pointer none, .slice (some ⟨w.heap.size, 0, none⟩) 2 2, .int .i64 1] (w.alloc (.cells (bc (dig1 ++ dig2)) 24)) _
  have b0 : Below w.heap.size w (w.alloc (.cells (bc (dig1 ++ dig2)) 24)) := (Below.refl _ _).alloc (Nat.le_refl _) _
  refine (unhide HB w (two_DL w) ((unhide HT).below b0 (Nat.le_refl _))).mono ?_
  rintro e w1 ⟨⟨g, c, rfl, hc, hg, hdl⟩, hb1⟩
  have b1 : Below w.heap.size w w1 := b0.trans (hb1.mono (by simp))
  have t1 := (unhide HT).below b1 (Nat.le_refl _)
  have HDL := hide hdl
  have HB1 := hide b1
  have T1 := hide t1
  clear hdl b1 t1 hb1 b0 hc hg
  go_wp2_with fail
  refine (unhide HO _ (unhide T1)).mono ?_
  rintro e w2 ⟨rfl, hb2⟩
  have T2 := hide ((unhide T1).below hb2 (Nat.le_refl _))
  have D2 := hide ((unhide HDL).below hb2 (Nat.le_refl _))
  have B2 := hide ((unhide HB1).trans (hb2.mono (unhide HB1).size))
  clear hb2 HDL HB1 T1
  go_wp2_with fail
  refine (unhide HN _ (unhide T2)).mono ?_
  rintro e w3 ⟨rfl, hb3⟩
  have T3 := hide ((unhide T2).below hb3 (Nat.le_refl _))
  have D3 := hide ((unhide D2).below hb3 (Nat.le_refl _))
  have B3 := hide ((unhide B2).trans (hb3.mono (unhide B2).size))
  clear hb3 T2 D2 B2
  go_wp2_with fail
  change Calls _ _ #[.pointer none, .slice (some ⟨w3.heap.size, 0, none⟩) 2 2] (w3.alloc (.cells (bc (dig1 ++ dig2)) 24)) _
  have b3 : Below w3.heap.size w3 (w3.alloc (.cells (bc (dig1 ++ dig2)) 24)) := (Below.refl _ _).alloc (Nat.le_refl _) _
  refine (unhide HOD w3 (two_DL w3) ((unhide T3).below b3 (Nat.le_refl _))).mono ?_
  rintro e w4 ⟨rfl, hb4⟩
  have b4 : Below w3.heap.size w3 w4 := b3.trans (hb4.mono (by simp))
  have T4 := hide ((unhide T3).below b4 (Nat.le_refl _))
  have D4 := hide ((unhide D3).below b4 (Nat.le_refl _))
  have B4 := hide ((unhide B3).trans (b4.mono (unhide B3).size))
  clear hb4 b3 b4 T3 D3 B3
  go_wp2_with fail
  change Calls _ _ #[.pointer none, .agg (bc RR), .agg (bc dig2), .int .u32 1, .slice (some ⟨g, 0, none⟩) 32 c] _ _
  refine (unhide HP _ _ _ (unhide D4) (unhide T4)).mono ?_
  rintro e w5 ⟨rfl, hb5⟩
  have B5 := hide ((unhide B4).trans (hb5.mono (unhide B4).size))
  clear hb5
  go_wp2
  go_ret
  exact ⟨rfl, unhide B5⟩
theorem dig_refl (N : List UInt8) (h : N.length = 32) (w : World) : (binOp .eql 24 (.agg (bc N)) (.agg (bc N))).run Tryd.prog w = .ok (.bool true) w := by
  have := dig_eq N N h h w
  rw [decide_eq_true rfl] at this
  exact this
theorem proves_true (root leaf : List UInt8) (BR : List (List UInt8)) (hr : root.length = 32) (hl : leaf.length = 32) (x : Nat) (hx : x < 4294967296) (h : pProves root leaf x BR = true) (hB : BR.length = 32) (p : Option Addr) (c : Nat) (w : World) (hD : DL w p BR) (tabs : Tabs w) :
    Calls Tryd.prog 22 #[.pointer none, .agg (bc root), .agg (bc leaf), .int .u32 (x : Int), .slice p 32 c] w fun e w' => e = .returned (.bool true) ∧ Below w.heap.size w w' := by
  have := proves_calls root leaf hr hl x hx BR p c (by omega) w hD tabs
  rw [h, hB] at this
  exact this
theorem nought32 (N : List UInt8) (hN : pNought 32 = N) (w : World) (tabs : Tabs w) : Calls Tryd.prog 11 #[.pointer none, .int .i64 32] w fun e w' => e = .returned (.agg (bc N)) ∧ Below w.heap.size w w' := by
  have := nought_calls 32 w tabs
  rw [if_neg (by decide), show (32 : Int).toNat = 32 from rfl, hN] at this
  exact this
theorem of_none (N : List UInt8) (hN : pOfD [] = N) (w : World) (tabs : Tabs w) : Calls Tryd.prog 13 #[.pointer none, .slice none 0 0] w fun e w' => e = .returned (.agg (bc N)) ∧ Below w.heap.size w w' := by
  have := of_calls [] none 0 (by simp) (by simp) w ⟨fun d hd => by simp at hd, fun h => absurd rfl h⟩ tabs
  rw [hN] at this
  exact this
theorem dig12 : ∀ d ∈ [dig1, dig2], d.length = 32 := by intro d hd; simp at hd; rcases hd with rfl | rfl <;> rfl
theorem mawake_calls (w : World) (tabs : Tabs w) : Calls Tryd.prog 6 #[] w fun e w' => e = .returned (.bool true) ∧ Below w.heap.size w w' := by
  obtain ⟨NN, hNN⟩ : ∃ N, pNought 32 = N := ⟨_, rfl⟩
  obtain ⟨RR, hRR⟩ : ∃ N, pOfD [dig1, dig2] = N := ⟨_, rfl⟩
  obtain ⟨BR, hBR⟩ : ∃ N, pBranch [dig1, dig2] 1 = N := ⟨_, rfl⟩
  have hNl : NN.length = 32 := by rw [← hNN]; exact pNought_length 32
  have hRl : RR.length = 32 := by rw [← hRR]; exact pStand_length (pLev_32 _ dig12 32) 0 _ (pNought_length 32)
  have hBl : BR.length = 32 := by rw [← hBR]; exact pBranch_length _ _
  have hpr := branch_proves [dig1, dig2] (by simp) 1 (by simp)
  rw [hRR, hBR, show [dig1, dig2].getD 1 [] = dig2 from rfl] at hpr
  refine mawake_core NN RR BR (nought32 NN hNN) (of_none NN (of_nil.trans hNN)) (dig_refl NN hNl) ?_ ?_ (proves_true RR dig2 BR hRl rfl 1 (by decide) hpr hBl) w tabs
  · intro w hD tb
    have := branch_calls [dig1, dig2] (some ⟨w.heap.size, 0, none⟩) 2 1 (by simp) (by simp) (w.alloc (.cells (bc (dig1 ++ dig2)) 24)) hD tb
    rw [hBR] at this
    exact this
  · intro w hD tb
    have := of_calls [dig1, dig2] (some ⟨w.heap.size, 0, none⟩) 2 (by simp) (by simp) (w.alloc (.cells (bc (dig1 ++ dig2)) 24)) hD tb
    rw [hRR] at this
    exact this
end Go.Proofs.YtkioomojdahjlaaDoor

namespace Go.Proofs.YtkioomojdahjlaaDoor
open Go Go.RowKit
set_option linter.unusedSimpArgs false
set_option linter.unusedVariables false

def tr (n : Nat) (L : List UInt8) : Array Value := (Value.int .u32 (n : Int) :: Lib.byteCells L).toArray
theorem tr_size (n : Nat) (L : List UInt8) : (tr n L).size = 1 + L.length := by simp [tr, Lib.byteCells_length]; omega
theorem treeInfo (n : Nat) (L : List UInt8) (h : L.length = 1024) : (Tryd.prog.info? 27).map (·.size) = some (tr n L).size := by rw [tr_size, h]; kernel_rfl
theorem tr_one (n : Nat) (L : List UInt8) : (tr n L).all (·.oneCell') = true := by
  simp [tr, Lib.byteCells, Value.oneCell']
theorem zeroTree : Tryd.zeroCells27 = tr 0 (List.replicate 1024 0) := by kernel_rfl
theorem tr_cell {w : World} {g n : Nat} {L : List UInt8} {t : TypeId} (h : w.heap[g]? = some (.cells (tr n L) t (0, 0))) : w.cell? ⟨g, 0, none⟩ = some (.int .u32 (n : Int)) ∧ w.frozen? ⟨g, 0, none⟩ = false := by
  refine ⟨?_, frozen_of_row _ _ _ _ _ h⟩
  rw [cell_of_row _ _ _ _ _ _ h]; rfl
theorem tr_set (n m : Nat) (L : List UInt8) : (tr n L).setIfInBounds 0 (.int .u32 (m : Int)) = tr m L := by simp [tr]
/-- The digest of a level. -/
def chk (L : List UInt8) (k : Nat) : List UInt8 := (L.drop (k * 32)).take 32
theorem chk_length (L : List UInt8) (h : L.length = 1024) (k : Nat) (hk : k < 32) : (chk L k).length = 32 := by unfold chk; simp; omega
theorem tr_range {w : World} {g n : Nat} {L : List UInt8} {t : TypeId} (h : w.heap[g]? = some (.cells (tr n L) t (0, 0))) (k : Nat) : w.rangeAt g (1 + k * 32) (Lib.byteCells (chk L k)) := fun j v hv => by
  rw [cell_of_row _ _ _ _ _ _ h]
  unfold tr
  have hj : j < (chk L k).length := by
    have := (List.getElem?_eq_some_iff.1 hv).1
    rwa [Lib.byteCells_length] at this
  have e : Lib.byteCells (chk L k) = ((Lib.byteCells L).drop (k * 32)).take 32 := by unfold chk Lib.byteCells; simp [List.map_take, List.map_drop]
  rw [e, List.getElem?_take, List.getElem?_drop] at hv
  have hj32 : j < 32 := by unfold chk at hj; simp at hj; omega
  rw [if_pos hj32] at hv
  rw [show 1 + k * 32 + j = (k * 32 + j) + 1 by omega]
  simpa using hv
theorem tr_put (n : Nat) (L D : List UInt8) (o : Nat) : ((tr n L).toList.take (1 + o) ++ (bc D).toList ++ (tr n L).toList.drop (1 + o + (bc D).toList.length)).toArray = tr n (putAt L o D) := by
  unfold tr putAt bc Lib.byteCells
  rw [show 1 + o = o + 1 by omega]
  simp [List.map_take, List.map_drop, show o + 1 + D.length = (o + D.length) + 1 by omega]
theorem wpList_store_tr {P : Program} {ops : Array Oper} {rest : List Oper} {op : Oper} {a : Act} {w : World} {Q : Exit → Act → World → Prop} (hgd : op.guard = none) (ty : TypeId) (x y : Operand) (ho : op.op = .store ty x y)
    (g o n : Nat) (L D : List UInt8) (t : TypeId) (hx : a.eval x = .pointer (some ⟨g, 1 + o, none⟩)) (hy : a.eval y = .agg (bc D)) (hg : w.heap[g]? = some (.cells (tr n L) t (0, 0))) (hle : o + D.length ≤ L.length)
    (hi : (P.info? ty).map (·.size) = some (bc D).size)
    (h : ∀ w', w'.heap[g]? = some (.cells (tr n (putAt L o D)) t (0, 0)) → (∀ k, k ≠ g → w'.heap[k]? = w.heap[k]?) → w'.heap.size = w.heap.size → (∀ B, B ≤ g → Below B w w') → wpList P ops Q rest (a.put op.dst undef) w') :
    wpList P ops Q (op :: rest) a w := by
  have th : w.there g (1 + o) (bc D).size := by
    intro j hj
    rw [bc_size] at hj
    refine ⟨?_, frozen_of_row _ _ _ _ _ hg⟩
    rw [cell_of_row _ _ _ _ _ _ hg]
    have : 1 + o + j < (tr n L).size := by rw [tr_size]; omega
    simp [this]
  refine wpList_store_mid hgd ty x y ho g (1 + o) (bc D) hx hy th hi (bc_oneCell D) ?_
  obtain ⟨r1, r2, r3, r4⟩ := setCells_heap g t (bc D).toList (1 + o) (tr n L) w hg (by rw [tr_size]; simp [bc_size]; omega)
  rw [tr_put] at r1
  exact h _ r1 r2 r3 r4
theorem low_zero (m : Nat) : ∀ k, (∀ j, j < k → m / 2 ^ j % 2 = 0) → m % 2 ^ k = 0
  | 0, _ => by simp [Nat.mod_one]
  | k + 1, h => by
    have ih := low_zero m k (fun j hj => h j (by omega))
    have h1 := h k (by omega)
    have e := Nat.div_add_mod m (2 ^ k)
    rw [ih, Nat.add_zero] at e
    obtain ⟨q, hq⟩ : ∃ q, m / 2 ^ k = 2 * q := ⟨m / 2 ^ k / 2, by omega⟩
    rw [hq] at e
    rw [← e, ← Nat.mul_assoc, ← Nat.pow_succ]
    exact Nat.mul_mod_right _ _
end Go.Proofs.YtkioomojdahjlaaDoor

namespace Go.Proofs.YtkioomojdahjlaaDoor
open Go Go.RowKit
set_option linter.unusedSimpArgs false
set_option linter.unusedVariables false

/-- What is come to at a level: the digest of the last whole part. -/
def pPart (L leaf : List UInt8) : Nat → List UInt8
  | 0 => leaf
  | k + 1 => pNode (chk L k) (pPart L leaf k)
theorem pPart_length (L leaf : List UInt8) (h : leaf.length = 32) : ∀ k, (pPart L leaf k).length = 32
  | 0 => h
  | k + 1 => pNode_length _ _
/-- The lowest bit. -/
def Low (m k : Nat) : Prop := m / 2 ^ k % 2 = 1 ∧ ∀ j, j < k → m / 2 ^ j % 2 = 0
theorem low_le (m k : Nat) (h0 : 0 < m) (hm : m ≤ 4096) (h : ∀ j, j < k → m / 2 ^ j % 2 = 0) : k ≤ 12 := by
  have h1 := low_zero m k h
  have h2 : 2 ^ k ≤ m := Nat.le_of_dvd h0 (Nat.dvd_of_mod_eq_zero h1)
  by_cases hk : k ≤ 12
  · exact hk
  · have : 2 ^ 13 ≤ 2 ^ k := Nat.pow_le_pow_right (by decide) (by omega)
    omega
set_option maxHeartbeats 1000000 in
set_option maxRecDepth 100000 in
theorem insert_many (c : Nat) (hc : c < 4294967296) (hm : 4096 ≤ c) (L leaf : List UInt8) (hL : L.length = 1024) (hl : leaf.length = 32) (w : World) :
    Calls Tryd.prog 7 #[.pointer none, .agg (tr c L), .agg (bc leaf)] w fun e w' => e = .returned (.tuple #[.agg (tr c L), .int .i64 6]) ∧ Below w.heap.size w w' := by
  have hiT := treeInfo c L hL
  have hil := digInfo leaf hl
  have hoT := tr_one c L
  have A3 := hide (al3 w (.cells (tr c L) 27) (.cells (bc leaf) 24) (.cells (tr 0 (List.replicate 1024 0)) 27))
  have B3 := hide (bel3 w (.cells (tr c L) 27) (.cells (bc leaf) 24) (.cells (tr 0 (List.replicate 1024 0)) 27))
  have c0 := (tr_cell (unhide A3).1).1
  have hz : (tr 0 (List.replicate 1024 0)).size = (tr c L).size := by rw [tr_size, tr_size, hL]; rfl
  have d : decide ((4096 : Int) ≤ (c : Int)) = true := by simp; omega
  rw [← zeroTree] at A3 B3 c0 hz
  go_enter Tryd.func7, Tryd.ntmps7
  go_wp2_with (first
    | refine wpList_load_row rfl 27 (.tmp 4) rfl w.heap.size rfl 27 _ (0, 0) _ (unhide A3).1 Tryd.underlying27 rfl hiT ?_
    | refine wpList_store_row rfl 27 (.tmp 6) (.tmp 13) rfl (w.heap.size + 1 + 1) _ rfl rfl 27 _ (unhide A3).2.2 hiT hz hoT ?_)
  exact bodyPost_ret (results_row_tmp rfl _ _ (w.heap.size + 1 + 1) _ _ _ _ rfl (setRow_heap _ _ _ _ _ _ (unhide A3).2.2) Tryd.underlying27 rfl hiT) rfl ⟨rfl, below_setRow (unhide B3) (by omega) _⟩
set_option maxHeartbeats 4000000 in
set_option maxRecDepth 100000 in
theorem insert_calls (c : Nat) (hm : c < 4096) (L leaf : List UInt8) (hL : L.length = 1024) (hl : leaf.length = 32) (w : World) (tabs : Tabs w) :
    Calls Tryd.prog 7 #[.pointer none, .agg (tr c L), .agg (bc leaf)] w fun e w' => (∃ k, Low (c + 1) k ∧ k ≤ 12 ∧ e = .returned (.tuple #[.agg (tr (c + 1) (putAt L (k * 32) (pPart L leaf k))), .int .i64 0])) ∧ Below w.heap.size w w' := by
  have hiT := treeInfo c L hL
  have hil := digInfo leaf hl
  have hol := bc_oneCell leaf
  have hzl := zeroSize leaf hl
  have A3 := hide (al3 w (.cells (tr c L) 27) (.cells (bc leaf) 24) (.cells (tr 0 (List.replicate 1024 0)) 27))
  have B3 := hide (bel3 w (.cells (tr c L) 27) (.cells (bc leaf) 24) (.cells (tr 0 (List.replicate 1024 0)) 27))
  have c0 := (tr_cell (unhide A3).1).1
  have f0 := (tr_cell (unhide A3).1).2
  have d : decide ((4096 : Int) ≤ (c : Int)) = false := by simp; omega
  rw [← zeroTree] at A3 B3 c0 f0
  obtain ⟨X, hX⟩ : ∃ X, ((w.alloc (.cells (tr c L) 27)).alloc (.cells (bc leaf) 24)).alloc (.cells Tryd.zeroCells27 27) = X := ⟨_, rfl⟩
  have S3 : Hid (X.heap.size = w.heap.size + 1 + 1 + 1) := hide (by rw [← hX]; simp)
  rw [hX] at A3 B3 c0 f0
  obtain ⟨c1, hc1, HC1⟩ : ∃ c1 : Nat, ((c : Int) + 1) % 4294967296 = (c1 : Int) ∧ Hid (c1 = c + 1) := ⟨c + 1, by omega, rfl⟩
  have q8 : ∀ v, ((X.setCell ⟨w.heap.size, 0, none⟩ v).alloc (.cells (bc (List.replicate 32 0)) 24)).heap[X.heap.size]? = some (.cells (bc (List.replicate 32 0)) 24 (0, 0)) := fun v => by
    have := al1 (X.setCell ⟨w.heap.size, 0, none⟩ v) (.cells (bc (List.replicate 32 0)) 24)
    rwa [show (X.setCell ⟨w.heap.size, 0, none⟩ v).heap.size = X.heap.size by simp [World.setCell]] at this
  have Hm := hide hm
  have HT := hide tabs
  have HL := hide hL
  have HPl := hide (pPart_length L leaf hl)
  have Q8 := hide q8
  clear tabs q8 hm
  go_enter Tryd.func7, Tryd.ntmps7
  go_wp2_with (first
    | rw [hX]
    | refine wpList_load_row rfl 24 (.tmp 5) rfl (w.heap.size + 1) rfl 24 _ (0, 0) _ ((Below.heap_setCell _ _ _ _ (by simp)).trans (unhide A3).2.1) Tryd.underlying24 rfl hil ?_
    | refine wpList_store_row rfl 24 (.tmp 8) (.tmp 18) rfl X.heap.size _ rfl rfl 24 _ (unhide Q8 _) hil hzl hol ?_)
  have sX := unhide S3
  obtain ⟨G, hG⟩ : ∃ G, X.heap.size = G := ⟨_, rfl⟩
  obtain ⟨N, hN⟩ : ∃ N, w.heap.size = N := ⟨_, rfl⟩
  rw [hG, hN] at sX
  have hZ : Hid (∀ v, Below w.heap.size w (((X.setCell ⟨w.heap.size, 0, none⟩ v).alloc (.cells (bc (List.replicate 32 0)) 24)).setRow X.heap.size (bc leaf))) := fun v =>
    below_setRow ((((unhide B3).setCell (p := ⟨w.heap.size, 0, none⟩) (Nat.le_refl _) v)).alloc (by simp [World.setCell]; omega) _) (by omega) _
  have SN := hide sX
  have HN := hide hN
  have Z0 : Hid ((((X.setCell ⟨w.heap.size, 0, none⟩ (.int .u32 (c1 : Int))).alloc (.cells (bc (List.replicate 32 0)) 24)).setRow X.heap.size (bc leaf)).heap[w.heap.size]? = some (.cells (tr c1 L) 27 (0, 0))) := hide (by
    rw [setRow_other _ _ _ _ (by omega), Below.heap_alloc _ _ _ (by simp [World.setCell]; omega), heap_setCell_same _ _ _ _ _ _ (unhide A3).1, tr_set])
  have Z2 : Hid ((((X.setCell ⟨w.heap.size, 0, none⟩ (.int .u32 (c1 : Int))).alloc (.cells (bc (List.replicate 32 0)) 24)).setRow X.heap.size (bc leaf)).heap[w.heap.size + 1 + 1]? = some (.cells Tryd.zeroCells27 27 (0, 0))) := hide (by
    rw [setRow_other _ _ _ _ (by omega), Below.heap_alloc _ _ _ (by simp [World.setCell]; omega), Below.heap_setCell _ _ _ _ (by simp; omega)]; exact (unhide A3).2.2)
  have Z3 : Hid ((((X.setCell ⟨w.heap.size, 0, none⟩ (.int .u32 (c1 : Int))).alloc (.cells (bc (List.replicate 32 0)) 24)).setRow X.heap.size (bc leaf)).heap[X.heap.size]? = some (.cells (bc leaf) 24 (0, 0))) := hide (setRow_heap _ _ _ _ _ _ (unhide Q8 _))
  have hZc := hide (unhide hZ (.int .u32 (c1 : Int)))
  change Code.wp _ _ _ _ (((X.setCell ⟨w.heap.size, 0, none⟩ (.int .u32 (c1 : Int))).alloc (.cells (bc (List.replicate 32 0)) 24)).setRow X.heap.size (bc leaf))
  generalize ((X.setCell ⟨w.heap.size, 0, none⟩ (.int .u32 (c1 : Int))).alloc (.cells (bc (List.replicate 32 0)) 24)).setRow X.heap.size (bc leaf) = Z at *
  clear hX c0 f0 A3 B3 hZ Q8 hc1 d hil hol hzl hiT sX S3
  rw [hG] at Z3
  rw [hN] at Z0 Z2 hZc
  have hiZ : Hid (∀ M, M.length = 1024 → (Tryd.prog.info? 27).map (·.size) = some (tr c1 M).size) := fun M h => treeInfo c1 M h
  go_loopw [19] (fun i wr => ∃ k : Nat, k ≤ 12 ∧ i = .int .i64 (k : Int) ∧ (∀ j, j < k → c1 / 2 ^ j % 2 = 0) ∧ Below N w wr ∧ wr.heap[N]? = some (.cells (tr c1 L) 27 (0, 0)) ∧ wr.heap[N + 1 + 1]? = some (.cells Tryd.zeroCells27 27 (0, 0)) ∧ wr.heap[G]? = some (.cells (bc (pPart L leaf k)) 24 (0, 0))) (fun i _ => 32 - (intOf i).toNat)
  case atStart =>
    exact ⟨0, by omega, rfl, fun j hj => by omega, unhide hZc, unhide Z0, unhide Z2, unhide Z3⟩
  case round =>
    obtain ⟨k, hk, rfl, hlow, hb, q0, q2, q3⟩ := hrel
    clear Z0 Z2 Z3 hZc Z
    rw [hN, hG]
    have hd : decide ((k : Int) < 32) = true := by simp; omega
    obtain ⟨c0, f0⟩ := tr_cell q0
    have hPl := unhide HPl k
    have hiP := digInfo _ hPl
    obtain ⟨B, hB⟩ : ∃ B, c1 / 2 ^ k = B := ⟨_, rfl⟩
    have hBl : B < 4294967296 := by rw [← hB]; exact Nat.lt_of_le_of_lt (Nat.div_le_self _ _) (by have := unhide HC1; have := unhide Hm; omega)
    have fB : (c1 : Int) / 2 ^ k = (B : Int) := by rw [← hB]; push_cast; rfl
    have fA := mand_one B hBl
    have hz : G < wr.heap.size := (Array.getElem?_eq_some_iff.1 q3).1
    have b2 : (0 : Int) ≤ k ∧ (k : Int) < 32 := by omega
    have tb := (unhide HT).below hb (by rw [unhide HN]; exact Nat.le_refl _)
    by_cases hbit : B % 2 = 1
    · have hle : k * 32 + (pPart L leaf k).length ≤ L.length := by rw [hPl, unhide HL]; omega
      have hT2 : (putAt L (k * 32) (pPart L leaf k)).length = 1024 := by rw [putAt_length _ _ _ hle]; exact unhide HL
      have hiT := treeInfo c1 _ hT2
      have hoT := tr_one c1 (putAt L (k * 32) (pPart L leaf k))
      have hzT : (Tryd.zeroCells27).size = (tr c1 (putAt L (k * 32) (pPart L leaf k))).size := by rw [zeroTree, tr_size, tr_size, hT2]; rfl
      have Hres : Hid (Low (c + 1) k) := hide (by rw [← unhide HC1]; exact ⟨by rw [hB]; exact hbit, hlow⟩)
      have hcc := unhide HC1
      have HPE := hide (show tr (c + 1) (putAt L (k * 32) (pPart L leaf k)) = tr c1 (putAt L (k * 32) (pPart L leaf k)) by rw [hcc])
      rw [hbit] at fA
      have Q0 := hide q0
      have Q2 := hide q2
      have Q3 := hide q3
      have HB := hide hb
      have Hk := hide hk
      have HLe := hide hle
      clear q0 q2 q3 hb hz tb hlow hbit hB hBl hcc hk hle
      go_wp2_with (first
        | refine wpList_load_row rfl 24 (.tmp 8) rfl G rfl 24 _ (0, 0) _ (unhide Q3) Tryd.underlying24 rfl hiP ?_
        | (refine wpList_store_tr rfl 24 (.tmp 31) (.tmp 29) rfl N (k * 32) c1 L (pPart L leaf k) 27 (by first | rfl | (simp; done)) rfl (unhide Q0) (unhide HLe) hiP ?_
           intro w3 r1 r2 r3 r4
           have S0 := hide r1
           have S2 := hide ((r2 (N + 1 + 1) (by omega)).trans (unhide Q2))
           have B3 := hide ((unhide HB).trans (r4 N (Nat.le_refl _)))
           clear r1 r2 r3 r4)
        | refine wpList_load_row rfl 27 (.tmp 4) rfl N rfl 27 _ (0, 0) _ (unhide S0) Tryd.underlying27 rfl hiT ?_
        | refine wpList_store_row rfl 27 (.tmp 6) (.tmp 40) rfl (N + 1 + 1) _ rfl rfl 27 _ (unhide S2) hiT hzT hoT ?_)
      refine bodyPost_ret (results_row_tmp rfl _ _ (N + 1 + 1) _ _ _ _ rfl (setRow_heap _ _ _ _ _ _ (unhide S2)) Tryd.underlying27 rfl hiT) rfl ⟨⟨k, unhide Hres, unhide Hk, ?_⟩, by rw [unhide HN]; exact below_setRow (unhide B3) (by omega) _⟩
      rw [unhide HPE]; rfl
    · have hk12 : k + 1 ≤ 12 := by
        have hlow' : ∀ j, j < k + 1 → c1 / 2 ^ j % 2 = 0 := fun j hj => by
          by_cases e : j = k
          · subst e; rw [hB]; omega
          · exact hlow j (by omega)
        exact low_le c1 (k + 1) (by have := unhide HC1; omega) (by have := unhide HC1; have := unhide Hm; omega) hlow'
      have hlow' : ∀ j, j < k + 1 → c1 / 2 ^ j % 2 = 0 := fun j hj => by
        by_cases e : j = k
        · subst e; rw [hB]; omega
        · exact hlow j (by omega)
      have hChl := chk_length L (unhide HL) k (by omega)
      have hr := tr_range q0 k
      have hP1 := unhide HPl (k + 1)
      have hi1 := digInfo _ hP1
      have ho1 := bc_oneCell (pPart L leaf (k + 1))
      have hz1 : (bc (pPart L leaf k)).size = (bc (pPart L leaf (k + 1))).size := by rw [bc_size, bc_size, hPl, hP1]
      have kN : Hid (∀ dd os, Calls Tryd.prog 24 #[.pointer none, .agg (bc (chk L k)), .agg (bc (pPart L leaf k))] (Sort.grow (redrawn wr dd) os) fun e w'' => e = .returned (.agg (bc (pPart L leaf (k + 1)))) ∧ ∃ p : Regrown, w'' = Sort.grow (redrawn wr p.d) p.os) := fun dd os =>
        Calls.regrown_of (node_calls (chk L k) (pPart L leaf k) hChl hPl _ (tb.below (below_regrown wr dd os) (Nat.le_refl _)))
      have RM : Hid (∀ w', (∃ p : Regrown, w' = Sort.grow (redrawn wr p.d) p.os) → w'.rangeAt N (1 + k * 32) (Lib.byteCells (chk L k))) := fun w' ⟨p, hp⟩ => by
        rw [hp]; exact rangeAt_below hr (below_regrown wr p.d p.os) (by have := unhide SN; omega)
      have R3 : Hid (∀ w', (∃ p : Regrown, w' = Sort.grow (redrawn wr p.d) p.os) → w'.heap[G]? = some (.cells (bc (pPart L leaf k)) 24 (0, 0))) := fun w' ⟨p, hp⟩ => by
        rw [hp]; exact Below.at (below_regrown wr p.d p.os) hz q3
      rw [show B % 2 = 0 by omega] at fA
      have HCl := hide hChl
      have Hlow := hide hlow'
      have Hk12 := hide hk12
      have Q0 := hide q0
      have Q2 := hide q2
      have Q3 := hide q3
      have HB := hide hb
      have Hz := hide hz
      obtain ⟨P1, hP1e⟩ : ∃ P, pPart L leaf k = P := ⟨_, rfl⟩
      obtain ⟨P2, hP2e⟩ : ∃ P, pPart L leaf (k + 1) = P := ⟨_, rfl⟩
      obtain ⟨CH, hCH⟩ : ∃ P, chk L k = P := ⟨_, rfl⟩
      rw [hP1e] at kN R3 Q3 hiP hz1
      rw [hP2e] at kN hi1 ho1 hz1
      rw [hCH] at kN RM HCl
      have HP2 := hide hP2e
      clear q0 q2 q3 hb hz tb hlow hlow' hbit hB hBl hk hk12 hr hChl hP1 hPl hP1e hP2e hCH
      go_wp2_with fail
      refine wp_region_below_tail 7 mixed (by kernel_rfl) ?_
      simp only [List.take_succ_cons, List.take_zero, List.drop_succ_cons, List.drop_zero]
      quiet_step (fail)
      quiet_step (fail)
      quiet_step (fail)
      quiet_step (fail)
      refine wpQuiet_load_mid rfl 24 (.tmp 35) (by first | rfl | (simp; done)) N (1 + k * 32) (by first | rfl | (simp; done)) (Lib.byteCells CH) _ (unhide RM) Tryd.underlying24 rfl (by rw [Lib.byteCells_length, unhide HCl]; kernel_rfl) ?_
      refine wpQuiet_load_row rfl 24 (.tmp 8) rfl G rfl 24 _ (0, 0) _ (unhide R3) Tryd.underlying24 rfl hiP ?_
      quiet_step (exact unhide kN _ _)
      refine wpQuiet_nil ?_
      intro w2 hb2
      have p0 := Below.at hb2 (by have := unhide Hz; have := unhide SN; omega) (unhide Q0)
      have p2 := Below.at hb2 (by have := unhide Hz; have := unhide SN; omega) (unhide Q2)
      have p3 := Below.at hb2 (unhide Hz) (unhide Q3)
      have bb : Below N w w2 := (unhide HB).trans (hb2.mono (by have := unhide Hz; have := unhide SN; omega))
      have P0 := hide p0
      have P2' := hide p2
      have P3 := hide p3
      have BB := hide bb
      clear p0 p2 p3 bb hb2
      refine wpList_store_row rfl 24 (.tmp 8) (.tmp 38) rfl G _ rfl rfl 24 _ (unhide P3) hi1 hz1 ho1 ?_
      go_wp2
      refine ⟨⟨k + 1, unhide Hk12, by go_num, unhide Hlow, below_setRow (unhide BB) (by have := unhide SN; omega) _, ?_, ?_, ?_⟩, by have := unhide Hk12; simp [intOf]; omega⟩
      · rw [setRow_other _ _ _ _ (by have := unhide SN; omega)]; exact unhide P0
      · rw [setRow_other _ _ _ _ (by have := unhide SN; omega)]; exact unhide P2'
      · rw [unhide HP2]; exact setRow_heap _ _ _ _ _ _ (unhide P3)
end Go.Proofs.YtkioomojdahjlaaDoor

namespace Go.Proofs.YtkioomojdahjlaaDoor
open Go Go.RowKit
set_option linter.unusedSimpArgs false
set_option linter.unusedVariables false

/-- What is come to at a level. -/
def pTop (c : Nat) (L : List UInt8) : Nat → List UInt8
  | 0 => pNought 0
  | k + 1 => if c / 2 ^ k % 2 = 1 then pNode (chk L k) (pTop c L k) else pNode (pTop c L k) (pNought k)
theorem pTop_length (c : Nat) (L : List UInt8) : ∀ k, (pTop c L k).length = 32
  | 0 => rfl
  | k + 1 => by unfold pTop; split <;> exact pNode_length _ _
theorem al4 (w : World) (A B C D : Obj) : ((((w.alloc A).alloc B).alloc C).alloc D).heap[w.heap.size]? = some A ∧ ((((w.alloc A).alloc B).alloc C).alloc D).heap[w.heap.size + 1]? = some B ∧ ((((w.alloc A).alloc B).alloc C).alloc D).heap[w.heap.size + 1 + 1]? = some C ∧ ((((w.alloc A).alloc B).alloc C).alloc D).heap[w.heap.size + 1 + 1 + 1]? = some D := by
  have h := al3 w A B C
  refine ⟨?_, ?_, ?_, ?_⟩
  · rw [Below.heap_alloc _ _ _ (by first | (simp; done) | (simp; omega))]; exact h.1
  · rw [Below.heap_alloc _ _ _ (by first | (simp; done) | (simp; omega))]; exact h.2.1
  · rw [Below.heap_alloc _ _ _ (by simp)]; exact h.2.2
  · have := al1 (((w.alloc A).alloc B).alloc C) D
    simp only [World.size_alloc] at this
    exact this
set_option maxHeartbeats 4000000 in
set_option maxRecDepth 100000 in
theorem root_calls (c : Nat) (hc : c < 4294967296) (L : List UInt8) (hL : L.length = 1024) (w : World) (tabs : Tabs w) :
    Calls Tryd.prog 9 #[.pointer none, .agg (tr c L)] w fun e w' => e = .returned (.agg (bc (pTop c L 32))) ∧ Below w.heap.size w w' := by
  have hiT := treeInfo c L hL
  have A4 := hide (al4 w (.cells (tr c L) 27) (.cells (bc (pNought 0)) 24) (.cells (bc (pNought 0)) 24) (.cells (bc (pNought 0)) 24))
  have B4 := hide ((bel3 w (.cells (tr c L) 27) (.cells (bc (pNought 0)) 24) (.cells (bc (pNought 0)) 24)).alloc (by simp; omega) (.cells (bc (pNought 0)) 24))
  have HT := hide tabs
  have HL := hide hL
  have Hc := hide hc
  have HI := hide (fun k => digInfo (pNought k) (pNought_length k))
  have HO := hide (fun k => bc_oneCell (pNought k))
  have HTl := hide (pTop_length c L)
  clear tabs hL hc
  go_enter Tryd.func9, Tryd.ntmps9
  go_wp2
  obtain ⟨N, hN⟩ : ∃ N, w.heap.size = N := ⟨_, rfl⟩
  have HN := hide hN
  go_loopw [8] (fun i wr => ∃ k : Nat, k ≤ 32 ∧ i = .int .i64 (k : Int) ∧ Below N w wr ∧ wr.heap[N]? = some (.cells (tr c L) 27 (0, 0)) ∧ wr.heap[N + 1]? = some (.cells (bc (pNought 0)) 24 (0, 0)) ∧ wr.heap[N + 1 + 1]? = some (.cells (bc (pTop c L k)) 24 (0, 0)) ∧ wr.heap[N + 1 + 1 + 1]? = some (.cells (bc (pNought k)) 24 (0, 0))) (fun i _ => 32 - (intOf i).toNat)
  case atStart =>
    subst hN
    exact ⟨0, by omega, rfl, unhide B4, (unhide A4).1, (unhide A4).2.1, (unhide A4).2.2.1, (unhide A4).2.2.2⟩
  case round =>
    obtain ⟨k, hk, rfl, hb, q0, q1, q2, q3⟩ := hrel
    rw [hN]
    clear A4 B4
    by_cases hlt : k < 32
    · have hd : decide ((k : Int) < 32) = true := by simp; omega
      obtain ⟨c0, f0⟩ := tr_cell q0
      have hTl := unhide HTl k
      have hT1l := unhide HTl (k + 1)
      have hiTp := digInfo _ hTl
      have hi1 := digInfo _ hT1l
      have ho1 := bc_oneCell (pTop c L (k + 1))
      have hz1 : (bc (pTop c L k)).size = (bc (pTop c L (k + 1))).size := by rw [bc_size, bc_size, hTl, hT1l]
      have hiN := unhide HI k
      have hiN1 := unhide HI (k + 1)
      have hoN1 := unhide HO (k + 1)
      have hzN : (bc (pNought k)).size = (bc (pNought (k + 1))).size := by rw [bc_size, bc_size, pNought_length, pNought_length]
      have hTe : pTop c L (k + 1) = if c / 2 ^ k % 2 = 1 then pNode (chk L k) (pTop c L k) else pNode (pTop c L k) (pNought k) := rfl
      have hNe : pNought (k + 1) = pNode (pNought k) (pNought k) := rfl
      obtain ⟨B, hB⟩ : ∃ B, c / 2 ^ k = B := ⟨_, rfl⟩
      have hBl : B < 4294967296 := by rw [← hB]; exact Nat.lt_of_le_of_lt (Nat.div_le_self _ _) (unhide Hc)
      have fB : (c : Int) / 2 ^ k = (B : Int) := by rw [← hB]; push_cast; rfl
      have fA := mand_one B hBl
      rw [hB] at hTe
      have hz : N + 1 + 1 + 1 < wr.heap.size := (Array.getElem?_eq_some_iff.1 q3).1
      have b2 : (0 : Int) ≤ k ∧ (k : Int) < 32 := by omega
      have tb := (unhide HT).below hb (by rw [unhide HN]; exact Nat.le_refl _)
      have hChl := chk_length L (unhide HL) k hlt
      have hr := tr_range q0 k
      have hNl := pNought_length k
      obtain ⟨NO, hNO⟩ : ∃ P, pNought k = P := ⟨_, rfl⟩
      obtain ⟨N1, hN1⟩ : ∃ P, pNought (k + 1) = P := ⟨_, rfl⟩
      obtain ⟨T0, hT0⟩ : ∃ P, pTop c L k = P := ⟨_, rfl⟩
      obtain ⟨T1, hT1⟩ : ∃ P, pTop c L (k + 1) = P := ⟨_, rfl⟩
      obtain ⟨CH, hCH⟩ : ∃ P, chk L k = P := ⟨_, rfl⟩
      rw [hNO] at hTe hNe hiN hzN q3 hNl
      rw [hN1] at hNe hiN1 hoN1 hzN
      rw [hT0] at hTe hTl hiTp hz1 q2
      rw [hT1] at hTe hT1l hi1 ho1 hz1
      rw [hCH] at hTe hChl hr
      have HN1 := hide hN1
      have HT1 := hide hT1
      have HNe := hide hNe
      have HTe := hide hTe
      have HChl := hide hChl
      have HTl2 := hide hTl
      have HNl := hide hNl
      have TB := hide tb
      have HR := hide hr
      have Q0 := hide q0
      have Q1 := hide q1
      have Q2 := hide q2
      have Q3 := hide q3
      have HB := hide hb
      have Hk := hide hlt
      have Hz := hide hz
      clear q0 q1 q2 q3 hb hlt hz tb hr hChl hNe hTe hN1 hT1 hNO hT0 hCH hTl hT1l hNl hB hBl hk
      have REST : Hid (∀ w3, Below N w w3 → Calls Tryd.prog 24 #[.pointer none, .agg (bc NO), .agg (bc NO)] w3 fun e w' => e = .returned (.agg (bc N1)) ∧ Below w3.heap.size w3 w') := fun w3 hb3 => by
        rw [unhide HNe]
        exact node_calls NO NO (unhide HNl) (unhide HNl) w3 ((unhide HT).below hb3 (by rw [unhide HN]; exact Nat.le_refl _))
      by_cases hbit : B % 2 = 1
      case' pos =>
        have e1 := unhide HTe
        rw [if_pos hbit] at e1
        have kN : Hid (∀ dd os, Calls Tryd.prog 24 #[.pointer none, .agg (bc CH), .agg (bc T0)] (Sort.grow (redrawn wr dd) os) fun e w'' => e = .returned (.agg (bc T1)) ∧ ∃ p : Regrown, w'' = Sort.grow (redrawn wr p.d) p.os) := fun dd os => by
          rw [e1]; exact Calls.regrown_of (node_calls CH T0 (unhide HChl) (unhide HTl2) _ ((unhide TB).below (below_regrown wr dd os) (Nat.le_refl _)))
        have RM : Hid (∀ w', (∃ p : Regrown, w' = Sort.grow (redrawn wr p.d) p.os) → w'.rangeAt N (1 + k * 32) (Lib.byteCells CH)) := fun w' ⟨p, hp⟩ => by
          rw [hp]; exact rangeAt_below (unhide HR) (below_regrown wr p.d p.os) (by have := unhide Hz; omega)
        have R2 : Hid (∀ w', (∃ p : Regrown, w' = Sort.grow (redrawn wr p.d) p.os) → w'.heap[N + 1 + 1]? = some (.cells (bc T0) 24 (0, 0))) := fun w' ⟨p, hp⟩ => by
          rw [hp]; exact Below.at (below_regrown wr p.d p.os) (by have := unhide Hz; omega) (unhide Q2)
        rw [hbit] at fA
        clear e1 hbit
        go_wp2_with fail
        refine wp_region_below_tail 7 mixed (by kernel_rfl) ?_
        simp only [List.take_succ_cons, List.take_zero, List.drop_succ_cons, List.drop_zero]
        quiet_step (fail)
        quiet_step (fail)
        quiet_step (fail)
        quiet_step (fail)
        refine wpQuiet_load_mid rfl 24 (.tmp 20) rfl N (1 + k * 32) rfl (Lib.byteCells CH) _ (unhide RM) Tryd.underlying24 rfl (by rw [Lib.byteCells_length, unhide HChl]; kernel_rfl) ?_
        refine wpQuiet_load_row rfl 24 (.tmp 5) rfl (N + 1 + 1) rfl 24 _ (0, 0) _ (unhide R2) Tryd.underlying24 rfl hiTp ?_
        quiet_step (exact unhide kN _ _)
        refine wpQuiet_nil ?_
        intro w2 hb2
        have p0 := hide (Below.at hb2 (by have := unhide Hz; omega) (unhide Q0))
        have p1 := hide (Below.at hb2 (by have := unhide Hz; omega) (unhide Q1))
        have p2 := hide (Below.at hb2 (by have := unhide Hz; omega) (unhide Q2))
        have p3 := hide (Below.at hb2 (unhide Hz) (unhide Q3))
        have BB := hide ((unhide HB).trans (hb2.mono (by have := unhide Hz; omega)))
        have Z2 := hide hb2.size
        clear hb2
        refine wpList_store_row rfl 24 (.tmp 5) (.tmp 23) rfl (N + 1 + 1) _ rfl rfl 24 _ (unhide p2) hi1 hz1 ho1 ?_
      case' neg =>
        have e1 := unhide HTe
        rw [if_neg hbit] at e1
        have kN : Hid (Calls Tryd.prog 24 #[.pointer none, .agg (bc T0), .agg (bc NO)] wr fun e w' => e = .returned (.agg (bc T1)) ∧ Below wr.heap.size wr w') := by
          rw [e1]; exact node_calls T0 NO (unhide HTl2) (unhide HNl) wr (unhide TB)
        rw [show B % 2 = 0 by omega] at fA
        clear e1 hbit
        go_wp2_with (first
          | refine wpList_load_row rfl 24 (.tmp 5) rfl (N + 1 + 1) rfl 24 _ (0, 0) _ (unhide Q2) Tryd.underlying24 rfl hiTp ?_
          | refine wpList_load_row rfl 24 (.tmp 6) rfl (N + 1 + 1 + 1) rfl 24 _ (0, 0) _ (unhide Q3) Tryd.underlying24 rfl hiN ?_)
        refine (unhide kN).mono ?_
        rintro e w2 ⟨rfl, hb2⟩
        have p0 := hide (Below.at hb2 (by have := unhide Hz; omega) (unhide Q0))
        have p1 := hide (Below.at hb2 (by have := unhide Hz; omega) (unhide Q1))
        have p2 := hide (Below.at hb2 (by have := unhide Hz; omega) (unhide Q2))
        have p3 := hide (Below.at hb2 (unhide Hz) (unhide Q3))
        have BB := hide ((unhide HB).trans (hb2.mono (by have := unhide Hz; omega)))
        have Z2 := hide hb2.size
        clear hb2
        go_wp2_with (first
          | refine wpList_store_row rfl 24 (.tmp 5) (.tmp 27) rfl (N + 1 + 1) _ rfl rfl 24 _ (unhide p2) hi1 hz1 ho1 ?_
          | refine wpList_load_row rfl 24 (.tmp 6) rfl (N + 1 + 1 + 1) rfl 24 _ (0, 0) _ ((setRow_other _ _ _ _ (by omega)).trans (unhide p3)) Tryd.underlying24 rfl hiN ?_)
      case' pos =>
        go_wp2_with (refine wpList_load_row rfl 24 (.tmp 6) rfl (N + 1 + 1 + 1) rfl 24 _ (0, 0) _ ((setRow_other _ _ _ _ (by omega)).trans (unhide p3)) Tryd.underlying24 rfl hiN ?_)
      all_goals
        refine (unhide REST _ (below_setRow (unhide BB) (by omega) _)).mono ?_
        rintro e w4 ⟨rfl, hb4⟩
        have s4 : N + 1 + 1 + 1 < (w2.setRow (N + 1 + 1) (bc T1)).heap.size := by rw [size_setRow]; have := unhide Hz; have := unhide Z2; omega
        have r0 := hide (Below.at hb4 (by omega) ((setRow_other _ _ _ _ (by omega)).trans (unhide p0)))
        have r1 := hide (Below.at hb4 (by omega) ((setRow_other _ _ _ _ (by omega)).trans (unhide p1)))
        have r2 := hide (Below.at hb4 (by omega) (setRow_heap _ _ _ _ _ _ (unhide p2)))
        have r3 := hide (Below.at hb4 s4 ((setRow_other _ _ _ _ (by omega)).trans (unhide p3)))
        have B4 := hide ((below_setRow (unhide BB) (by omega) _).trans (hb4.mono (by omega)))
        clear hb4 s4
        go_wp2_with (refine wpList_store_row rfl 24 (.tmp 6) (.tmp 31) rfl (N + 1 + 1 + 1) _ rfl rfl 24 _ (unhide r3) hiN1 hzN hoN1 ?_)
        refine ⟨⟨k + 1, by have := unhide Hk; omega, by go_num, below_setRow (unhide B4) (by omega) _, ?_, ?_, ?_, ?_⟩, by have := unhide Hk; simp [intOf]; omega⟩
        · rw [setRow_other _ _ _ _ (by omega)]; exact unhide r0
        · rw [setRow_other _ _ _ _ (by omega)]; exact unhide r1
        · rw [setRow_other _ _ _ _ (by omega), unhide HT1]; exact unhide r2
        · rw [unhide HN1]; exact setRow_heap _ _ _ _ _ _ (unhide r3)
    · have hd : decide ((k : Int) < 32) = false := by simp; omega
      have hkl : k = 32 := by omega
      subst hkl
      have hM := unhide HTl 32
      have hi := digInfo _ hM
      have hz : (bc (pNought 0)).size = (bc (pTop c L 32)).size := by rw [bc_size, bc_size, hM]; rfl
      have ho := bc_oneCell (pTop c L 32)
      have Q1 := hide q1
      have Q2 := hide q2
      have HB := hide hb
      clear q0 q1 q2 q3 hb hlt hM
      rw [show ((32 : Nat) : Int) = 32 from rfl]
      go_wp2_with (first
        | refine wpList_load_row rfl 24 (.tmp 5) rfl (N + 1 + 1) rfl 24 _ (0, 0) _ (unhide Q2) Tryd.underlying24 rfl hi ?_
        | refine wpList_store_row rfl 24 (.tmp 4) (.tmp 33) rfl (N + 1) _ rfl rfl 24 _ (unhide Q1) hi hz ho ?_)
      exact bodyPost_ret (results_cell_row rfl _ _ (N + 1) _ _ _ _ rfl (setRow_heap _ _ _ _ _ _ (unhide Q1)) Tryd.underlying24 rfl hi) rfl ⟨rfl, by rw [unhide HN]; exact below_setRow (unhide HB) (by omega) _⟩
end Go.Proofs.YtkioomojdahjlaaDoor

namespace Go.Proofs.YtkioomojdahjlaaDoor
open Go Go.RowKit
set_option linter.unusedSimpArgs false
set_option linter.unusedVariables false

/-- What stands in a tree's branches, where they count. -/
structure Kept (ds : List (List UInt8)) (L : List UInt8) : Prop where
  len : L.length = 1024
  at_ : ∀ k, k < 32 → ds.length / 2 ^ k % 2 = 1 → chk L k = st ds k (ds.length / 2 ^ k - 1)
theorem st_snoc (ds : List (List UInt8)) (leaf : List UInt8) : ∀ k i, (i + 1) * 2 ^ k ≤ ds.length → st (ds ++ [leaf]) k i = st ds k i
  | 0, i, h => by
    rw [Nat.pow_zero, Nat.mul_one] at h
    show pStand _ _ _ = pStand _ _ _
    unfold pStand
    rw [if_pos (by simp; omega), if_pos (by omega)]
    simp [List.getD, List.getElem?_append_left (show i < ds.length by omega)]
  | k + 1, i, h => by
    have e : (i + 1) * 2 ^ (k + 1) = (2 * i + 1 + 1) * 2 ^ k := by rw [Nat.pow_succ, Nat.mul_comm (2 ^ k) 2, ← Nat.mul_assoc]; congr 1; omega
    rw [e] at h
    have h2 : (2 * i + 1) * 2 ^ k ≤ ds.length := Nat.le_trans (Nat.mul_le_mul_right _ (by omega)) h
    show pNode _ _ = pNode _ _
    rw [st_snoc ds leaf k (2 * i) h2, st_snoc ds leaf k (2 * i + 1) h]
theorem st_behind (ds : List (List UInt8)) : ∀ k i, ds.length ≤ i * 2 ^ k → st ds k i = pNought k
  | 0, i, h => by
    rw [Nat.pow_zero, Nat.mul_one] at h
    show pStand _ _ _ = _
    unfold pStand
    rw [if_neg (by omega)]
  | k + 1, i, h => by
    have e : i * 2 ^ (k + 1) = (2 * i) * 2 ^ k := by rw [Nat.pow_succ, Nat.mul_comm (2 ^ k) 2, ← Nat.mul_assoc]; congr 1; omega
    rw [e] at h
    show pNode _ _ = pNode _ _
    rw [st_behind ds k (2 * i) h, st_behind ds k (2 * i + 1) (Nat.le_trans h (Nat.mul_le_mul_right _ (by omega)))]
theorem odd_pos (B : Nat) (h : B % 2 = 1) : 1 ≤ B := by omega
theorem half (n k : Nat) : n / 2 ^ (k + 1) = n / 2 ^ k / 2 := by rw [Nat.pow_succ, ← Nat.div_div_eq_div_mul]
/-- The root of a tree that was kept is that of its leaves. -/
theorem top_st (ds : List (List UInt8)) (L : List UInt8) (h : Kept ds L) : ∀ k, k ≤ 32 → pTop ds.length L k = st ds k (ds.length / 2 ^ k)
  | 0, _ => by
    rw [Nat.pow_zero, Nat.div_one]
    exact (st_behind ds 0 _ (by simp)).symm
  | k + 1, hk => by
    have ih := top_st ds L h k (by omega)
    show (if ds.length / 2 ^ k % 2 = 1 then pNode (chk L k) (pTop ds.length L k) else pNode (pTop ds.length L k) (pNought k)) = pNode (st ds k (2 * (ds.length / 2 ^ (k + 1)))) (st ds k (2 * (ds.length / 2 ^ (k + 1)) + 1))
    have hat := h.at_ k (by omega)
    have hbe : pNought k = st ds k (ds.length / 2 ^ k + 1) := by
      refine (st_behind ds k _ ?_).symm
      have := Nat.lt_div_mul_add (a := ds.length) (b := 2 ^ k) (Nat.two_pow_pos k)
      rw [Nat.add_mul]; omega
    rw [half, ih]
    generalize ds.length / 2 ^ k = B at *
    by_cases hb : B % 2 = 1
    · rw [if_pos hb, hat hb, show 2 * (B / 2) = B - 1 by omega, show B - 1 + 1 = B by omega]
    · rw [if_neg hb, hbe, show 2 * (B / 2) = B by omega]
/-- A leaf more. -/
theorem part_st (ds : List (List UInt8)) (leaf L : List UInt8) (hl : leaf.length = 32) (h : Kept ds L) : ∀ k, k ≤ 32 → (∀ j, j < k → (ds.length + 1) / 2 ^ j % 2 = 0) → pPart L leaf k = st (ds ++ [leaf]) k ((ds.length + 1) / 2 ^ k - 1)
  | 0, _, _ => by
    rw [Nat.pow_zero, Nat.div_one, Nat.add_sub_cancel]
    show leaf = pStand _ _ _
    unfold pStand
    rw [if_pos (by simp)]
    simp [List.getD]
  | k + 1, hk, hz => by
    have ih := part_st ds leaf L hl h k (by omega) (fun j hj => hz j (by omega))
    have hz1 := hz k (by omega)
    have hlow := low_zero (ds.length + 1) k (fun j hj => hz j (by omega))
    have hdm := Nat.div_add_mod (ds.length + 1) (2 ^ k)
    rw [hlow, Nat.add_zero] at hdm
    have h1 : 1 ≤ (ds.length + 1) / 2 ^ k := by
      by_cases h0 : (ds.length + 1) / 2 ^ k = 0
      · rw [h0, Nat.mul_zero] at hdm; omega
      · exact Nat.pos_of_ne_zero h0
    have hp := Nat.two_pow_pos k
    have hn : ds.length / 2 ^ k = (ds.length + 1) / 2 ^ k - 1 := by
      obtain ⟨q, hq⟩ : ∃ q, (ds.length + 1) / 2 ^ k = q + 1 := ⟨_, (Nat.sub_add_cancel h1).symm⟩
      rw [hq] at hdm ⊢
      rw [Nat.add_sub_cancel]
      have e : ds.length = 2 ^ k * q + (2 ^ k - 1) := by rw [Nat.mul_add, Nat.mul_one] at hdm; omega
      rw [e, Nat.mul_add_div hp, Nat.div_eq_of_lt (by omega), Nat.add_zero]
    have hat := h.at_ k (by omega)
    have hsn : ((ds.length + 1) / 2 ^ k - 2 + 1) * 2 ^ k ≤ ds.length ∨ (ds.length + 1) / 2 ^ k < 2 := by
      by_cases h2 : (ds.length + 1) / 2 ^ k < 2
      · exact .inr h2
      · left
        obtain ⟨q, hq⟩ : ∃ q, (ds.length + 1) / 2 ^ k = q + 2 := ⟨_, (Nat.sub_add_cancel (by omega)).symm⟩
        rw [hq] at hdm ⊢
        rw [Nat.add_sub_cancel, Nat.mul_comm]
        rw [Nat.mul_add] at hdm ⊢
        omega
    have hst := st_snoc ds leaf k ((ds.length + 1) / 2 ^ k - 2)
    show pNode (chk L k) (pPart L leaf k) = pNode (st (ds ++ [leaf]) k (2 * ((ds.length + 1) / 2 ^ (k + 1) - 1))) (st (ds ++ [leaf]) k (2 * ((ds.length + 1) / 2 ^ (k + 1) - 1) + 1))
    rw [ih, half]
    rw [hn] at hat
    generalize (ds.length + 1) / 2 ^ k = B at *
    have hB2 : 2 ≤ B := by omega
    rw [hat (by omega), show 2 * (B / 2 - 1) = B - 2 by omega, show B - 2 + 1 = B - 1 by omega, hst (hsn.resolve_right (by omega)), show B - 1 - 1 = B - 2 by omega]
theorem chk_put (L D : List UInt8) (hL : L.length = 1024) (hD : D.length = 32) (k j : Nat) (hk : k < 32) (hj : j < 32) : chk (putAt L (k * 32) D) j = if j = k then D else chk L j := by
  unfold chk putAt
  rcases Nat.lt_trichotomy j k with h | h | h
  · rw [if_neg (by omega), List.append_assoc, List.drop_append_of_le_length (by simp; omega), List.take_append_of_le_length (by simp; omega), List.drop_take, List.take_take]
    congr 1
    omega
  · subst h
    rw [if_pos rfl, List.append_assoc, List.drop_append, List.drop_of_length_le (by simp; omega)]
    have e : j * 32 - (L.take (j * 32)).length = 0 := by simp; omega
    rw [e, List.nil_append, List.drop_zero, List.take_append_of_le_length (by omega)]
    exact List.take_of_length_le (by omega)
  · rw [if_neg (by omega), List.drop_append, List.drop_of_length_le (by simp; omega)]
    have e : (L.take (k * 32) ++ D).length = k * 32 + 32 := by simp; omega
    rw [e, List.nil_append, List.drop_drop, hD]
    congr 2
    omega
theorem Kept.snoc {ds : List (List UInt8)} {L leaf : List UInt8} (h : Kept ds L) (hl : leaf.length = 32) {k : Nat} (hlow : Low (ds.length + 1) k) (hk : k ≤ 12) : Kept (ds ++ [leaf]) (putAt L (k * 32) (pPart L leaf k)) := by
  have hPl := pPart_length L leaf hl k
  refine ⟨by rw [putAt_length _ _ _ (by rw [hPl, h.len]; omega)]; exact h.len, fun j hj hb => ?_⟩
  rw [List.length_append, List.length_singleton] at hb ⊢
  rw [chk_put L _ h.len hPl k j (by omega) hj]
  by_cases e : j = k
  · subst e
    rw [if_pos rfl]
    exact part_st ds leaf L hl h j (by omega) hlow.2
  · rw [if_neg e]
    have hkj : k < j := by
      rcases Nat.lt_trichotomy j k with h1 | h1 | h1
      · have := hlow.2 j h1; omega
      · exact absurd h1 e
      · exact h1
    have hq : (ds.length + 1) / 2 ^ j = ds.length / 2 ^ j := by
      have hk1 := hlow.1
      have hp := Nat.two_pow_pos k
      obtain ⟨d, rfl⟩ : ∃ d, j = k + 1 + d := ⟨j - k - 1, by omega⟩
      have hlz := low_zero (ds.length + 1) k hlow.2
      have hdm := Nat.div_add_mod (ds.length + 1) (2 ^ k)
      rw [hlz, Nat.add_zero] at hdm
      have e1 : ∀ n : Nat, n / 2 ^ (k + 1 + d) = n / 2 ^ k / 2 / 2 ^ d := fun n => by
        rw [Nat.pow_add, Nat.pow_succ, ← Nat.div_div_eq_div_mul, ← Nat.div_div_eq_div_mul]
      rw [e1, e1]
      congr 1
      obtain ⟨q, hq⟩ : ∃ q, (ds.length + 1) / 2 ^ k = q + 1 := ⟨_, (Nat.sub_add_cancel (odd_pos _ hk1)).symm⟩
      rw [hq] at hdm hk1 ⊢
      have e2 : ds.length / 2 ^ k = q := by
        have e : ds.length = 2 ^ k * q + (2 ^ k - 1) := by rw [Nat.mul_add, Nat.mul_one] at hdm; omega
        rw [e, Nat.mul_add_div hp, Nat.div_eq_of_lt (by omega), Nat.add_zero]
      rw [e2]; omega
    rw [hq] at hb ⊢
    rw [h.at_ j hj hb]
    refine (st_snoc ds leaf j _ ?_).symm
    have := Nat.div_mul_le_self ds.length (2 ^ j)
    have h1 : 1 ≤ ds.length / 2 ^ j := odd_pos _ hb
    rw [Nat.sub_add_cancel h1]; exact this
theorem kept_nil : Kept [] (List.replicate 1024 0) := ⟨List.length_replicate, fun k _ h => by rw [List.length_nil, Nat.zero_div] at h; cases h⟩
theorem low_unique {m k l : Nat} (h1 : Low m k) (h2 : Low m l) : k = l := by
  rcases Nat.lt_trichotomy k l with h | h | h
  · have := h2.2 k h; have := h1.1; omega
  · exact h
  · have := h1.2 l h; have := h2.1; omega
/-- The tree into which the leaves were put, one behind the other. -/
inductive KeptBy : List (List UInt8) → List UInt8 → Prop where
  | nil : KeptBy [] (List.replicate 1024 0)
  | snoc (ds : List (List UInt8)) (L leaf : List UInt8) (k : Nat) : KeptBy ds L → leaf.length = 32 → Low (ds.length + 1) k → k ≤ 12 → KeptBy (ds ++ [leaf]) (putAt L (k * 32) (pPart L leaf k))
theorem KeptBy.kept {ds : List (List UInt8)} {L : List UInt8} (h : KeptBy ds L) : Kept ds L := by
  induction h with
  | nil => exact kept_nil
  | snoc ds L leaf k _ hl hlow hk ih => exact ih.snoc hl hlow hk
theorem KeptBy.unique {ds : List (List UInt8)} {L : List UInt8} (h : KeptBy ds L) : ∀ {L' : List UInt8}, KeptBy ds L' → L = L' := by
  induction h with
  | nil =>
    intro L' h'
    generalize he : ([] : List (List UInt8)) = es at h'
    cases h' with
    | nil => rfl
    | snoc ds' M leaf' k' _ _ _ _ => exact absurd he.symm (by simp)
  | snoc ds L leaf k _ hl hlow hk ih =>
    intro L' h'
    generalize he : ds ++ [leaf] = es at h'
    cases h' with
    | nil => exact absurd he (by simp)
    | snoc ds' M leaf' k' hM hl' hlow' hk' =>
      obtain ⟨rfl, e2⟩ := List.append_inj' he rfl
      obtain rfl : leaf = leaf' := by simpa using e2
      obtain rfl := low_unique hlow hlow'
      rw [ih hM]
end Go.Proofs.YtkioomojdahjlaaDoor

namespace Go.Proofs.YtkioomojdahjlaaDoor
open Go Go.RowKit
set_option linter.unusedSimpArgs false
set_option linter.unusedVariables false

theorem noughts_at (k : Nat) (hk : k < 33) : ((List.range 33).map pNought).getD k [] = pNought k := by simp [hk]
theorem st_length (ds : List (List UInt8)) (h : ∀ d ∈ ds, d.length = 32) (k i : Nat) : (st ds k i).length = 32 := by
  rw [← stand_st]
  exact pStand_length (pLev_32 ds h k) _ _ (pNought_length k)
set_option maxHeartbeats 2000000 in
set_option maxRecDepth 100000 in
theorem rnode_calls (ds : List (List UInt8)) (hlen : ds.length ≤ 100000000) (pz pl : Option Addr) (cz cl : Nat) : ∀ (k : Nat), k ≤ 32 → ∀ (x : Nat), (x + 1) * 2 ^ k ≤ 70368744177664 → ∀ (w : World), DL w pz ((List.range 33).map pNought) → DL w pl ds →
    Calls Tryd.prog 31 #[.pointer none, .slice pz 33 cz, .slice pl ds.length cl, .int .i64 (k : Int), .int .i64 (x : Int)] w fun e w' => e = .returned (.agg (bc (st ds k x))) ∧ Below w.heap.size w w' := by
  intro k
  induction k with
  | zero =>
    intro hk x hx w hZ hD
    have a1 := al1 w (.cells (bc (List.replicate 32 0)) 24)
    have b1 := hide ((Below.refl w.heap.size w).alloc (Nat.le_refl _) (.cells (bc (List.replicate 32 0)) 24))
    have cs := hide fun w => rsize_calls 0 (by decide) w
    have hx1 : x ≤ 70368744177664 := by simp at hx; omega
    have hp : (x : Int) * 1 = (x : Int) := by omega
    obtain ⟨X, hX⟩ : ∃ X, w.alloc (.cells (bc (List.replicate 32 0)) 24) = X := ⟨_, rfl⟩
    rw [hX] at a1 b1
    have HX := hide hX
    clear hX
    by_cases hlt : ds.length ≤ x
    · have hd : decide (ds.length ≤ x) = true := by simpa using hlt
      rw [st_behind ds 0 x (by simpa using hlt)]
      obtain ⟨b, off, rfl, hbz, hc⟩ := hZ.2 (by simp)
      have hr := rangeAt_below (hc 0 (by simp)) (unhide b1) hbz
      rw [noughts_at 0 (by decide)] at hr
      have hi := digInfo (pNought 0) (pNought_length 0)
      have hz : Hid ((bc (List.replicate 32 (0 : UInt8))).size = (bc (pNought 0)).size) := by show _ = _; rw [bc_size, bc_size, pNought_length]; rfl
      have ho := bc_oneCell (pNought 0)
      have hl : Hid ((pNought 0).length = 32) := pNought_length 0
      obtain ⟨D, hDD⟩ : ∃ D, pNought 0 = D := ⟨_, rfl⟩
      rw [hDD] at hr hi hz ho hl
      rw [hDD]
      have HR := hide hr
      clear hr hc hZ hD hDD hlt hx
      go_enter Tryd.func31, Tryd.ntmps31
      go_wp2_with fail
      refine (unhide cs _).mono ?_
      rintro e w2 ⟨rfl, hw2⟩
      have e2 : w2 = X := hw2.trans (unhide HX)
      clear hw2 HX
      subst e2
      go_wp2_with (first
        | refine wpList_load_mid rfl 24 (.tmp 22) rfl b (off + 0 * 32) rfl (Lib.byteCells D) _ (unhide HR) Tryd.underlying24 rfl (by rw [Lib.byteCells_length, unhide hl]; kernel_rfl) ?_
        | refine wpList_store_row rfl 24 (.tmp 10) (.tmp 23) rfl w.heap.size (bc D) rfl rfl 24 _ a1 hi (unhide hz) ho ?_)
      exact bodyPost_ret (results_cell_row rfl _ _ w.heap.size _ _ _ _ rfl (setRow_heap _ _ _ _ _ _ a1) Tryd.underlying24 rfl hi) rfl ⟨rfl, below_setRow (unhide b1) (Nat.le_refl _) _⟩
    · have hd : decide (ds.length ≤ x) = false := by simpa using hlt
      have hxl : x < ds.length := by omega
      obtain ⟨b, off, rfl, hbz, hc⟩ := hD.2 (by intro h; rw [h] at hxl; simp at hxl)
      have hr := rangeAt_below (hc x hxl) (unhide b1) hbz
      have hl0 := hD.len x hxl
      have est : st ds 0 x = ds.getD x [] := by show pStand _ _ _ = _; unfold pStand; rw [if_pos hxl]
      rw [est]
      obtain ⟨D, hDD⟩ : ∃ D, ds.getD x [] = D := ⟨_, rfl⟩
      rw [hDD] at hr hl0
      rw [hDD]
      have hi := digInfo D hl0
      have hz : Hid ((bc (List.replicate 32 (0 : UInt8))).size = (bc D).size) := by show _ = _; rw [bc_size, bc_size, hl0]; rfl
      have ho := bc_oneCell D
      have hl := hide hl0
      have HR := hide hr
      have b3 : (0 : Int) ≤ (x : Int) ∧ (x : Int) < (ds.length : Int) := by omega
      clear hr hc hZ hD hDD hlt hx hl0 est hxl
      go_enter Tryd.func31, Tryd.ntmps31
      go_wp2_with fail
      refine (unhide cs _).mono ?_
      rintro e w2 ⟨rfl, hw2⟩
      have e2 : w2 = X := hw2.trans (unhide HX)
      clear hw2 HX
      subst e2
      go_wp2_with (first
        | refine wpList_load_mid rfl 24 (.tmp 28) rfl b (off + x * 32) rfl (Lib.byteCells D) _ (unhide HR) Tryd.underlying24 rfl (by rw [Lib.byteCells_length, unhide hl]; kernel_rfl) ?_
        | refine wpList_store_row rfl 24 (.tmp 10) (.tmp 29) rfl w.heap.size (bc D) rfl rfl 24 _ a1 hi (unhide hz) ho ?_)
      exact bodyPost_ret (results_cell_row rfl _ _ w.heap.size _ _ _ _ rfl (setRow_heap _ _ _ _ _ _ a1) Tryd.underlying24 rfl hi) rfl ⟨rfl, below_setRow (unhide b1) (Nat.le_refl _) _⟩
  | succ k ih =>
    intro hk x hx w hZ hD
    have a1 := al1 w (.cells (bc (List.replicate 32 0)) 24)
    have b1 := hide ((Below.refl w.heap.size w).alloc (Nat.le_refl _) (.cells (bc (List.replicate 32 0)) 24))
    have cs := fun w => rsize_calls (k + 1) (by omega) w
    have hpow : 2 ^ (k + 1) = 2 * 2 ^ k := by rw [Nat.pow_succ]; omega
    obtain ⟨P, hP⟩ : ∃ P : Nat, x * 2 ^ (k + 1) = P := ⟨_, rfl⟩
    have hP2 : P ≤ 70368744177664 := by rw [← hP]; exact Nat.le_trans (Nat.mul_le_mul_right _ (Nat.le_succ x)) hx
    have hpos : 1 ≤ 2 ^ k := Nat.one_le_two_pow
    have hx1 : x ≤ 70368744177664 := Nat.le_trans (Nat.le_trans (by omega : x ≤ x + 1) (Nat.le_mul_of_pos_right _ (by omega))) hx
    have c1 := fun w => ih (by omega) (2 * x) (by rw [hpow, ← Nat.mul_assoc] at hx; refine Nat.le_trans (Nat.mul_le_mul_right _ (by omega : 2 * x + 1 ≤ (x + 1) * 2)) hx) w
    have c2 := fun w => ih (by omega) (2 * x + 1) (by rw [hpow, ← Nat.mul_assoc] at hx; refine Nat.le_trans (Nat.mul_le_mul_right _ (by omega : 2 * x + 1 + 1 ≤ (x + 1) * 2)) hx) w
    obtain ⟨M, hM⟩ : ∃ M, 2 ^ (k + 1) = M := ⟨_, rfl⟩
    have hMb : M ≤ 4294967296 := by rw [← hM]; exact Nat.le_trans (Nat.pow_le_pow_right (by decide) hk) (by decide)
    rw [hM] at hP cs
    have hp : (x : Int) * (M : Int) = (P : Int) := by rw [← hP]; push_cast; rfl
    obtain ⟨K, hK⟩ : ∃ K, k + 1 = K := ⟨_, rfl⟩
    have hK1 : (K : Int) - 1 = (k : Int) := by omega
    have hK0 : ((K : Int) == 0) = false := by simp; omega
    have hKb : K ≤ 32 := by omega
    obtain ⟨y, hy⟩ : ∃ y, 2 * x = y := ⟨_, rfl⟩
    have hy1 : 2 * (x : Int) = (y : Int) := by omega
    obtain ⟨y1, hy2⟩ : ∃ y1, y + 1 = y1 := ⟨_, rfl⟩
    have hy3 : (y : Int) + 1 = (y1 : Int) := by omega
    have hyb : y1 ≤ 140737488355329 := by omega
    rw [hy] at c1 c2
    rw [hy2] at c2
    have hl1 := st_length ds hD.1 k y
    have hl2 := st_length ds hD.1 k y1
    have hlt' := st_length ds hD.1 (k + 1) x
    have est : st ds (k + 1) x = pNode (st ds k y) (st ds k y1) := by rw [← hy2, ← hy]; rfl
    have ebeh := st_behind ds (k + 1) x
    rw [hM, hP] at ebeh
    have hZk : k + 1 < 33 := by omega
    have hnz := noughts_at (k + 1) hZk
    rw [hK] at cs est ebeh hnz hZk hlt'
    rw [hK]
    have cs := hide cs
    obtain ⟨X, hX⟩ : ∃ X, w.alloc (.cells (bc (List.replicate 32 0)) 24) = X := ⟨_, rfl⟩
    rw [hX] at a1 b1
    have HX := hide hX
    have zX := hide (Array.getElem?_eq_some_iff.1 a1).1
    clear hX hpow hP hpos hM hy hy2 ih hx
    by_cases hlt : ds.length ≤ P
    · have hd : decide (ds.length ≤ P) = true := by simpa using hlt
      rw [ebeh hlt]
      obtain ⟨b, off, rfl, hbz, hc⟩ := hZ.2 (by simp)
      have hr := rangeAt_below (hc K (by simpa using hZk)) (unhide b1) hbz
      rw [hnz] at hr
      have hi := digInfo (pNought K) (pNought_length K)
      have hz : Hid ((bc (List.replicate 32 (0 : UInt8))).size = (bc (pNought K)).size) := by show _ = _; rw [bc_size, bc_size, pNought_length]; rfl
      have ho := bc_oneCell (pNought K)
      have hl : Hid ((pNought K).length = 32) := pNought_length K
      obtain ⟨D, hDD⟩ : ∃ D, pNought K = D := ⟨_, rfl⟩
      rw [hDD] at hr hi hz ho hl
      rw [hDD]
      have HR := hide hr
      have b3 : (0 : Int) ≤ (K : Int) ∧ (K : Int) < 33 := by omega
      clear hr hc hZ hD hDD hlt c1 c2 hnz est ebeh hl1 hl2 hlt' hK hZk hK1 hy1 hy3
      go_enter Tryd.func31, Tryd.ntmps31
      go_wp2_with fail
      refine (unhide cs _).mono ?_
      rintro e w2 ⟨rfl, hw2⟩
      have e2 : w2 = X := hw2.trans (unhide HX)
      clear hw2 HX
      subst e2
      go_wp2_with (first
        | refine wpList_load_mid rfl 24 (.tmp 22) rfl b (off + K * 32) rfl (Lib.byteCells D) _ (unhide HR) Tryd.underlying24 rfl (by rw [Lib.byteCells_length, unhide hl]; kernel_rfl) ?_
        | refine wpList_store_row rfl 24 (.tmp 10) (.tmp 23) rfl w.heap.size (bc D) rfl rfl 24 _ a1 hi (unhide hz) ho ?_)
      exact bodyPost_ret (results_cell_row rfl _ _ w.heap.size _ _ _ _ rfl (setRow_heap _ _ _ _ _ _ a1) Tryd.underlying24 rfl hi) rfl ⟨rfl, below_setRow (unhide b1) (Nat.le_refl _) _⟩
    · have hd : decide (ds.length ≤ P) = false := by simpa using hlt
      have hZX := hide (hZ.below (unhide b1) (Nat.le_refl _))
      have hDX := hide (hD.below (unhide b1) (Nat.le_refl _))
      rw [est] at hlt' ⊢
      have cT := fun W => rnode2_calls _ _ hl1 hl2 W
      obtain ⟨D1, hD1⟩ : ∃ D, st ds k y = D := ⟨_, rfl⟩
      obtain ⟨D2, hD2⟩ : ∃ D, st ds k y1 = D := ⟨_, rfl⟩
      rw [hD1] at c1 hl1
      rw [hD2] at c2 hl2
      rw [hD1, hD2] at hlt' cT
      rw [hD1, hD2]
      obtain ⟨D3, hD3⟩ : ∃ D, pNode D1 D2 = D := ⟨_, rfl⟩
      rw [hD3] at hlt' cT
      rw [hD3]
      have hi1 := digInfo D1 hl1
      have hi2 := digInfo D2 hl2
      have hi3 := digInfo D3 hlt'
      have hz1 := zeroSize D1 hl1
      have hz2 := zeroSize D2 hl2
      have hz3 : Hid ((bc (List.replicate 32 (0 : UInt8))).size = (bc D3).size) := by show _ = _; rw [bc_size, bc_size, hlt']; rfl
      have ho3 := bc_oneCell D3
      have C1 := hide c1
      have C2 := hide c2
      have CT := hide cT
      clear hZ hD hD1 hD2 hD3 hlt c1 c2 cT hnz est ebeh hl1 hl2 hlt' hK hZk
      go_enter Tryd.func31, Tryd.ntmps31
      go_wp2_with fail
      refine (unhide cs _).mono ?_
      rintro e w2 ⟨rfl, hw2⟩
      have e2 : w2 = X := hw2.trans (unhide HX)
      clear hw2 HX
      subst e2
      go_wp2_with fail
      refine (unhide C1 _ (unhide hZX) (unhide hDX)).mono ?_
      rintro e w3 ⟨rfl, b3⟩
      have p0 := Below.at b3 (unhide zX) a1
      have bb := hide ((unhide b1).trans (b3.mono (Nat.le_of_lt (unhide zX))))
      have z3 := hide (Nat.lt_of_lt_of_le (unhide zX) b3.size)
      have dZ := hide ((unhide hZX).below b3 (Nat.le_refl _))
      have dD := hide ((unhide hDX).below b3 (Nat.le_refl _))
      have P0 := hide p0
      clear p0 b3 C1 a1 hZX hDX
      go_wp2_with (refine wpList_store_new rfl 24 (.tmp 11) (.tmp 37) rfl w3 _ _ D1 rfl rfl hi1 hz1 ?_; intro w4 q4 b4 y4; have P4 := hide (Below.at b4 (unhide z3) (unhide P0)); have bb4 := hide ((unhide bb).trans (b4.mono (Nat.le_of_lt (unhide z3)))); have dZ4 := hide ((unhide dZ).below b4 (Nat.le_refl _)); have dD4 := hide ((unhide dD).below b4 (Nat.le_refl _)); clear b4 P0 bb dZ dD)
      have Q4 := hide q4
      have z4 := hide (Array.getElem?_eq_some_iff.1 q4).1
      obtain ⟨G1, hG1⟩ : ∃ G, w3.heap.size = G := ⟨_, rfl⟩
      rw [hG1] at Q4 z4 z3
      simp only [hG1]
      clear q4 y4 hG1
      refine (unhide C2 _ (unhide dZ4) (unhide dD4)).mono ?_
      rintro e w5 ⟨rfl, b5⟩
      have z4' : w.heap.size < w4.heap.size := Nat.lt_trans (unhide z3) (unhide z4)
      have P5 := hide (Below.at b5 z4' (unhide P4))
      have Q5 := hide (Below.at b5 (unhide z4) (unhide Q4))
      have bb5 := hide ((unhide bb4).trans (b5.mono (Nat.le_of_lt z4')))
      have z5 := hide (Nat.lt_of_lt_of_le (unhide z4) b5.size)
      clear b5 z4' C2 dZ4 dD4 P4 Q4 bb4
      go_wp2_with (first
        | (refine wpList_store_new rfl 24 (.tmp 12) (.tmp 46) rfl w5 _ _ D2 rfl rfl hi2 hz2 ?_; intro w6 q6 b6 y6; have Q6 := hide (Below.at b6 (unhide z5) (unhide Q5)); have P6 := hide (Below.at b6 (Nat.lt_trans (unhide z3) (unhide z5)) (unhide P5)); have bb6 := hide ((unhide bb5).trans (b6.mono (Nat.le_of_lt (Nat.lt_trans (unhide z3) (unhide z5))))); clear b6 P5 Q5 bb5)
        | refine wpList_load_row rfl 24 (.tmp 11) rfl G1 rfl 24 _ (0, 0) _ (unhide Q6) Tryd.underlying24 rfl hi1 ?_
        | refine wpList_load_row rfl 24 (.tmp 12) rfl w5.heap.size rfl 24 _ (0, 0) _ q6 Tryd.underlying24 rfl hi2 ?_)
      have z6 : w.heap.size < w6.heap.size := Nat.lt_trans (Nat.lt_trans (unhide z3) (unhide z5)) (Array.getElem?_eq_some_iff.1 q6).1
      refine (unhide CT _).mono ?_
      rintro e w7 ⟨rfl, b7⟩
      have P7 := Below.at b7 z6 (unhide P6)
      have bb7 := (unhide bb6).trans (b7.mono (Nat.le_of_lt z6))
      clear b7 z6 P6 bb6 q6 y6 CT
      go_wp2_with (refine wpList_store_row rfl 24 (.tmp 10) (.tmp 50) rfl w.heap.size (bc D3) rfl rfl 24 _ P7 hi3 (unhide hz3) ho3 ?_)
      exact bodyPost_ret (results_cell_row rfl _ _ w.heap.size _ _ _ _ rfl (setRow_heap _ _ _ _ _ _ P7) Tryd.underlying24 rfl hi3) rfl ⟨rfl, below_setRow bb7 (Nat.le_refl _) _⟩
end Go.Proofs.YtkioomojdahjlaaDoor
