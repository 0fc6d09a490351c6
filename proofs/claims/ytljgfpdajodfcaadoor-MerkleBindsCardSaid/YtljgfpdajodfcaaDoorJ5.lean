/-
  WHAT merkle's Of RETURNS: the root of leaves.
-/
/-
  WHAT merkle's Branch RETURNS: the neighbours on a leaf's way.
-/
/-
  THE TREE: each leaf's branch proves it. Plain lemmas over the digests' lists.
-/
/-
  BYTES STORED INTO A BLOCK THAT WAS JUST MADE: the world behind it is a letter of which all is known.
-/
/-
  WHAT THE DOCUMENT's node OF LAYER 7 DOES WITH ITS LOG.
-/
/-
  WHAT THE DOCUMENT's Of AND Climb OF LAYER 7 DO WITH ITS LOG.
-/
/-
  UNLIKE DOMAINS OR PARTS HAVE UNLIKE INPUTS.
-/
/-
  WHAT A LOG WITHOUT A CLASH SAYS OF A TREE AND A CLIMB.
-/
/-
  layer 7's awake.
-/
/-
  A WHOLE ROW LOADED WHERE A GUARD LETS IT. Over whatever program.
-/
import Derived.Test.YtljgfpdajodfcaaDoorJ3
import Derived.Test.YtljgfpdajodfcaaDoorJ4
import Derived.Test.YtljgfpdajodfcaaDoorJ1
import Derived.Test.YtljgfpdajodfcaaDoorJ0
namespace Go.Proofs.YtljgfpdajodfcaaDoor
open Go Go.RowKit
set_option linter.unusedSimpArgs false
set_option linter.unusedVariables false

/-- The digests of a level, but for the noughts behind them. -/
def pLev (ds : List (List UInt8)) : Nat → List (List UInt8)
  | 0 => ds
  | k + 1 => pAbove (pLev ds k) (pNought k)
theorem pLev_len (ds : List (List UInt8)) : ∀ k, (pLev ds k).length ≤ ds.length
  | 0 => Nat.le_refl _
  | k + 1 => by
    have := pLev_len ds k
    show (pAbove _ _).length ≤ _
    rw [pAbove_length]
    by_cases h : (pLev ds k).length = 0
    · rw [h]; omega
    · omega
theorem pLev_32 (ds : List (List UInt8)) (h : ∀ d ∈ ds, d.length = 32) : ∀ k, ∀ d ∈ pLev ds k, d.length = 32
  | 0 => h
  | k + 1 => fun d hd => by
    obtain ⟨j, _, rfl⟩ := List.mem_map.1 hd
    exact aboveAt_length _ _ _
def pOfD (ds : List (List UInt8)) : List UInt8 := pStand (pLev (ds.take 4096) 32) 0 (pNought 32)
theorem DL.take {w : World} {p : Option Addr} {ds : List (List UInt8)} (h : DL w p ds) (n : Nat) : DL w p (ds.take n) := by
  refine ⟨fun d hd => h.1 d (List.mem_of_mem_take hd), fun hn => ?_⟩
  obtain ⟨b, off, rfl, hlt, hc⟩ := h.2 (by intro e; rw [e] at hn; simp at hn)
  refine ⟨b, off, rfl, hlt, fun i hi => ?_⟩
  have hi' : i < ds.length := by simp at hi; omega
  have hin : i < n := by simp at hi; omega
  have := hc i hi'
  simpa [List.getD, hi', hin] using this
set_option maxHeartbeats 4000000 in
set_option maxRecDepth 100000 in
theorem of_calls (ds : List (List UInt8)) (p : Option Addr) (cap : Nat) (hcap : ds.length ≤ cap) (hlen : ds.length ≤ 100000000) (w : World) (hD : DL w p ds) (tabs : Tabs w) :
    Calls Tryd.prog 11 #[.pointer none, .slice p ds.length cap] w fun e w' => e = .returned (.agg (bc (pOfD ds))) ∧ Below w.heap.size w w' := by
  have cf := fun w => mfirst_calls p ds.length cap hcap (by omega) w
  have htk : min ds.length 4096 = (ds.take 4096).length := by simp; omega
  rw [htk] at cf
  have hlen' : (ds.take 4096).length ≤ 4096 := by simp; omega
  have hD' := hD.take 4096
  have hO : pOfD ds = pStand (pLev (ds.take 4096) 32) 0 (pNought 32) := rfl
  generalize ds.take 4096 = es at *
  obtain ⟨R, hR⟩ : ∃ R, pOfD ds = R := ⟨_, rfl⟩
  rw [hR] at hO
  have hRl : R.length = 32 := by rw [hO]; exact pStand_length (pLev_32 es hD'.1 32) 0 _ (pNought_length 32)
  rw [hR]
  have A2 := hide (al2 w (.cells (bc (List.replicate 32 0)) 24) (.cells (bc (pNought 0)) 24))
  have B2 := hide (bel2 w (.cells (bc (List.replicate 32 0)) 24) (.cells (bc (pNought 0)) 24))
  have HI := hide (fun k => digInfo (pNought k) (pNought_length k))
  have HO := hide (fun k => bc_oneCell (pNought k))
  have hiR := digInfo R hRl
  have hzR := zeroSize R hRl
  have hoR := bc_oneCell R
  have HD := hide hD'
  have HT := hide tabs
  have HRe := hide hO
  have Hlen := hide hlen'
  have CF := hide cf
  clear hD hD' tabs hO hlen hcap cf hlen' hR hRl htk
  go_enter Tryd.func11, Tryd.ntmps11
  go_wp2_with fail
  refine (unhide CF _).mono ?_
  rintro e w1 ⟨rfl, hw1⟩
  subst hw1
  go_wp2
  obtain ⟨N, hN⟩ : ∃ N, w.heap.size = N := ⟨_, rfl⟩
  have HN := hide hN
  go_loopw [5, 9] (fun v i wr => ∃ k : Nat, k ≤ 32 ∧ i = .int .i64 (k : Int) ∧ Below N w wr ∧ wr.heap[N]? = some (.cells (bc (List.replicate 32 0)) 24 (0, 0)) ∧ wr.heap[N + 1]? = some (.cells (bc (pNought k)) 24 (0, 0)) ∧ ∃ q c, v = .slice q (pLev es k).length c ∧ (pLev es k).length ≤ 100000000 ∧ DL wr q (pLev es k) ∧ Far2 N q (pLev es k)) (fun _ i _ => 32 - (intOf i).toNat)
  case atStart =>
    subst hN
    exact ⟨0, by omega, rfl, unhide B2, (unhide A2).1, (unhide A2).2, p, cap, rfl, by have := unhide Hlen; show es.length ≤ _; omega, (unhide HD).below (unhide B2) (Nat.le_refl _), far2_of (unhide HD) (Nat.le_refl _)⟩
  case round =>
    obtain ⟨k, hk, rfl, hb, q0, q1, q, c, rfl, hll, hdl, hfar⟩ := hrel
    rw [hN]
    clear A2 B2
    by_cases hlt : k < 32
    · have hd : decide ((k : Int) < 32) = true := by simp; omega
      have hi := unhide HI k
      have hi1 := unhide HI (k + 1)
      have ho1 := unhide HO (k + 1)
      have hz1 : (bc (pNought k)).size = (bc (pNought (k + 1))).size := by rw [bc_size, bc_size, pNought_length, pNought_length]
      have tb := (unhide HT).below hb (by rw [← hN]; exact Nat.le_refl _)
      have hz : N + 1 < wr.heap.size := (Array.getElem?_eq_some_iff.1 q1).1
      have CA := hide (above_calls (pLev es k) q c (pNought k) (pNought_length k) hll wr hdl tb)
      have TB := hide tb
      have Q0 := hide q0
      have Q1 := hide q1
      have HB := hide hb
      have Hk := hide hlt
      have Hz := hide hz
      clear q0 q1 hb hlt hz tb hdl
      go_wp2_with (refine wpList_load_row rfl 24 (.tmp 6) rfl (N + 1) rfl 24 _ (0, 0) _ (unhide Q1) Tryd.underlying24 rfl hi ?_)
      refine (unhide CA).mono ?_
      rintro e w2 ⟨⟨g2, c2, rfl, hc2, hg2, hdl2⟩, hb2⟩
      have Hg2 : Hid (N + 1 < g2) := hide (by have := unhide Hz; omega)
      have p0 := Below.at hb2 (by have := unhide Hz; omega) (unhide Q0)
      have p1 := Below.at hb2 (unhide Hz) (unhide Q1)
      have bb : Below N w w2 := (unhide HB).trans (hb2.mono (by have := unhide Hz; omega))
      have tb2 := (unhide TB).below hb2 (Nat.le_refl _)
      have CN := hide (node_calls (pNought k) (pNought k) (pNought_length k) (pNought_length k) w2 tb2)
      have hz2 : N + 1 < w2.heap.size := by have := unhide Hz; have := hb2.size; omega
      have Hz2 := hide hz2
      have HDL := hide hdl2
      have P0 := hide p0
      have P1 := hide p1
      have BB := hide bb
      clear p0 p1 bb hb2 tb2 hdl2 hc2 hz2 CA hg2
      go_wp2_with (refine wpList_load_row rfl 24 (.tmp 6) rfl (N + 1) rfl 24 _ (0, 0) _ (unhide P1) Tryd.underlying24 rfl hi ?_)
      refine (unhide CN).mono ?_
      rintro e w3 ⟨rfl, hb3⟩
      have p0 := Below.at hb3 (by have := unhide Hz2; omega) (unhide P0)
      have p1 := Below.at hb3 (unhide Hz2) (unhide P1)
      have bb : Below N w w3 := (unhide BB).trans (hb3.mono (by have := unhide Hz2; omega))
      have hdl3 := (unhide HDL).below hb3 (Nat.le_refl _)
      have R0 := hide p0
      have R1 := hide p1
      have B3 := hide bb
      have HDL3 := hide hdl3
      have hz3 : Hid (N + 1 < w3.heap.size) := hide (by have := unhide Hz2; have := hb3.size; omega)
      clear p0 p1 bb hb3 hdl3 CN
      go_wp2_with (refine wpList_store_row rfl 24 (.tmp 6) (.tmp 18) rfl (N + 1) _ rfl rfl 24 _ (unhide R1) hi1 hz1 ho1 ?_)
      refine ⟨⟨k + 1, by have := unhide Hk; omega, by go_num, below_setRow (unhide B3) (by omega) _, ?_, ?_, some ⟨g2, 0, none⟩, c2, rfl, ?_, ?_, ?_⟩, by have := unhide Hk; simp [intOf]; omega⟩
      · rw [setRow_other _ _ _ _ (by omega)]; exact unhide R0
      · exact setRow_heap _ _ _ _ _ _ (unhide R1)
      · have := pLev_len es (k + 1); have := unhide Hlen; omega
      · exact (unhide HDL3).other (size_setRow _ _ _) (fun _ b off e => setRow_other _ _ _ _ (by simp at e; have := unhide Hg2; omega))
      · intro _ b off e
        simp at e
        have := unhide Hg2
        omega
    · have hd : decide ((k : Int) < 32) = false := by simp; omega
      have hkl : k = 32 := by omega
      subst hkl
      have hi := unhide HI 32
      have tb := (unhide HT).below hb (by rw [← hN]; exact Nat.le_refl _)
      have hz : N + 1 < wr.heap.size := (Array.getElem?_eq_some_iff.1 q1).1
      have cs := standing_calls (pLev es 32) q c 0 (pNought 32) (pNought_length 32) (by omega) wr hdl
      rw [← unhide HRe] at cs
      have CS := hide cs
      have Q0 := hide q0
      have Q1 := hide q1
      have HB := hide hb
      have Hz := hide hz
      generalize pNought 32 = NN at *
      generalize pLev es 32 = LL at *
      clear q0 q1 hb hlt hz tb hdl cs hfar
      rw [show ((32 : Nat) : Int) = 32 from rfl]
      go_wp2_with (refine wpList_load_row rfl 24 (.tmp 6) rfl (N + 1) rfl 24 _ (0, 0) _ (unhide Q1) Tryd.underlying24 rfl hi ?_)
      refine (unhide CS).mono ?_
      rintro e w2 ⟨rfl, hb2⟩
      have p0 := Below.at hb2 (by have := unhide Hz; omega) (unhide Q0)
      have bb : Below N w w2 := (unhide HB).trans (hb2.mono (by have := unhide Hz; omega))
      have P0 := hide p0
      have BB := hide bb
      clear p0 bb hb2
      go_wp2_with (refine wpList_store_row rfl 24 (.tmp 4) (.tmp 22) rfl N _ rfl rfl 24 _ (unhide P0) hiR hzR hoR ?_)
      exact bodyPost_ret (results_cell_row rfl _ _ N _ _ _ _ rfl (setRow_heap _ _ _ _ _ _ (unhide P0)) Tryd.underlying24 rfl hiR) rfl ⟨rfl, by rw [unhide HN]; exact below_setRow (unhide BB) (Nat.le_refl _) _⟩
end Go.Proofs.YtljgfpdajodfcaaDoor

namespace Go.Proofs.YtljgfpdajodfcaaDoor
open Go Go.RowKit
set_option linter.unusedSimpArgs false
set_option linter.unusedVariables false

theorem xor_one (M : Nat) (h : M < 9223372036854775808) : bits .xor .i64 (M : Int) 1 = ((M ^^^ 1 : Nat) : Int) := by
  have h63 : M ^^^ 1 < 2 ^ 63 := Nat.xor_lt_two_pow (by omega) (by omega)
  have h1 : (BitVec.ofInt 64 (M : Int)).toNat = M := by
    rw [BitVec.ofInt_natCast, BitVec.toNat_ofNat]; exact Nat.mod_eq_of_lt (by omega)
  have h2 : (BitVec.ofInt 64 (1 : Int)).toNat = 1 := by decide
  show IntKind.i64.wrap ((BitVec.ofInt 64 (M : Int) ^^^ BitVec.ofInt 64 (1 : Int)).toNat : Int) = _
  rw [BitVec.toNat_xor, h1, h2, IntKind.wrap_i64]
  omega
/-- The neighbours, level by level. -/
def sideAt (ds : List (List UInt8)) (x : Nat) (i : Nat) : List UInt8 := pStand (pLev ds i) ((x / 2 ^ i) ^^^ 1) (pNought i)
def pBranch (ds : List (List UInt8)) (x : Nat) : List (List UInt8) := (List.range 32).map (sideAt ds x)
theorem sideAt_length {ds : List (List UInt8)} (h : ∀ d ∈ ds, d.length = 32) (x i : Nat) : (sideAt ds x i).length = 32 := pStand_length (pLev_32 ds h i) _ _ (pNought_length i)
theorem pBranch_length (ds : List (List UInt8)) (x : Nat) : (pBranch ds x).length = 32 := by simp [pBranch]
set_option maxHeartbeats 400000 in
theorem branch_arg (ds : List (List UInt8)) (p : Option Addr) (cap : Nat) (x : Int) (hx : x < 0 ∨ (ds.length : Int) ≤ x) (w : World) :
    Calls Tryd.prog 10 #[.pointer none, .slice p ds.length cap, .int .i64 x] w fun e w' => e = .returned (.tuple #[.slice none 0 0, .int .i64 2]) ∧ w' = w := by
  have d : (decide (x < 0) = true) ∨ (decide (x < 0) = false ∧ decide ((ds.length : Int) ≤ x) = true) := by
    by_cases h : x < 0
    · exact .inl (by simpa using h)
    · exact .inr ⟨by simpa using h, by simp; omega⟩
  clear hx
  go_enter Tryd.func10, Tryd.ntmps10
  rcases d with d | ⟨d1, d2⟩
  all_goals
    go_wp2
    go_ret2
    exact ⟨rfl, rfl⟩
set_option maxHeartbeats 4000000 in
set_option maxRecDepth 100000 in
theorem branch_calls (ds : List (List UInt8)) (p : Option Addr) (cap : Nat) (x : Nat) (hx : x < ds.length) (hlen : ds.length ≤ 4096) (w : World) (hD : DL w p ds) (tabs : Tabs w) :
    Calls Tryd.prog 10 #[.pointer none, .slice p ds.length cap, .int .i64 (x : Int)] w fun e w' => (∃ g c, e = .returned (.tuple #[.slice (some ⟨g, 0, none⟩) 32 c, .int .i64 0]) ∧ 32 ≤ c ∧ w.heap.size ≤ g ∧ DL w' (some ⟨g, 0, none⟩) (pBranch ds x)) ∧ Below w.heap.size w w' := by
  have d1 : decide ((x : Int) < 0) = false := by simp
  have d2 : decide (ds.length ≤ x) = false := by simp; omega
  have d3 : decide ((4096 : Int) < (ds.length : Int)) = false := by simp; omega
  have mk : ∀ w, (Instr.makeSlice 22 (.int .i64 32) (.int .i64 32)).run Tryd.prog w = .ok (.slice (some ⟨w.heap.size, 0, none⟩) 32 32) (w.alloc (.cells (bc (List.replicate (32 * 32) 0)) 24)) := fun w => make_digests 32 (by decide) w
  have A2 := hide (al2 w (.cells (bc (List.replicate (32 * 32) 0)) 24) (.cells (bc (pNought 0)) 24))
  have B2 := hide (bel2 w (.cells (bc (List.replicate (32 * 32) 0)) 24) (.cells (bc (pNought 0)) 24))
  have HI := hide (fun k => digInfo (pNought k) (pNought_length k))
  have HO := hide (fun k => bc_oneCell (pNought k))
  obtain ⟨F, hF⟩ : ∃ F, sideAt ds x = F := ⟨_, rfl⟩
  have HFl : Hid (∀ j, (F j).length = 32) := hide (by rw [← hF]; exact sideAt_length hD.1 x)
  have HF := hide hF
  have hpb : pBranch ds x = (List.range 32).map F := by unfold pBranch; rw [hF]
  rw [hpb]
  have HD := hide hD
  have HT := hide tabs
  have Hlen := hide hlen
  have Hx := hide hx
  clear hD tabs hlen hx hF hpb
  go_enter Tryd.func10, Tryd.ntmps10
  go_wp2
  obtain ⟨N, hN⟩ : ∃ N, w.heap.size = N := ⟨_, rfl⟩
  have HN := hide hN
  go_loopw [9, 27] (fun v i wr => ∃ k : Nat, k ≤ 32 ∧ i = .int .i64 (k : Int) ∧ Below N w wr ∧ wr.heap[N]? = some (.cells (bc ((List.range k).flatMap F ++ List.replicate (32 * (32 - k)) 0)) 24 (0, 0)) ∧ wr.heap[N + 1]? = some (.cells (bc (pNought k)) 24 (0, 0)) ∧ ∃ q c, v = .slice q (pLev ds k).length c ∧ (pLev ds k).length ≤ 100000000 ∧ DL wr q (pLev ds k) ∧ Far2 N q (pLev ds k)) (fun _ i _ => 32 - (intOf i).toNat)
  case atStart =>
    subst hN
    exact ⟨0, by omega, rfl, unhide B2, (unhide A2).1, (unhide A2).2, p, cap, rfl, by have := unhide Hlen; show ds.length ≤ _; omega, (unhide HD).below (unhide B2) (Nat.le_refl _), far2_of (unhide HD) (Nat.le_refl _)⟩
  case round =>
    obtain ⟨k, hk, rfl, hb, q0, q1, q, c, rfl, hll, hdl, hfar⟩ := hrel
    rw [hN]
    clear A2 B2 mk
    by_cases hlt : k < 32
    · have hd : decide ((k : Int) < 32) = true := by simp; omega
      have hi := unhide HI k
      have hi1 := unhide HI (k + 1)
      have ho1 := unhide HO (k + 1)
      have hz1 : (bc (pNought k)).size = (bc (pNought (k + 1))).size := by rw [bc_size, bc_size, pNought_length, pNought_length]
      have tb := (unhide HT).below hb (by rw [← hN]; exact Nat.le_refl _)
      have hz : N + 1 < wr.heap.size := (Array.getElem?_eq_some_iff.1 q1).1
      have hFk : F k = pStand (pLev ds k) ((x / 2 ^ k) ^^^ 1) (pNought k) := by rw [← unhide HF]; rfl
      obtain ⟨B, hB⟩ : ∃ B, x / 2 ^ k = B := ⟨_, rfl⟩
      have hBl : B < 9223372036854775808 := by rw [← hB]; exact Nat.lt_of_le_of_lt (Nat.div_le_self _ _) (by have := unhide Hx; have := unhide Hlen; omega)
      have fB : (x : Int) / 2 ^ k = (B : Int) := by rw [← hB]; push_cast; rfl
      have fX := xor_one B hBl
      rw [hB] at hFk
      obtain ⟨Y, hY⟩ : ∃ Y, B ^^^ 1 = Y := ⟨_, rfl⟩
      rw [hY] at fX hFk
      have kS : Hid (∀ dd os, Calls Tryd.prog 19 #[.slice q (pLev ds k).length c, .int .i64 (Y : Int), .agg (bc (pNought k))] (Sort.grow (redrawn wr dd) os) fun e w'' => e = .returned (.agg (bc (F k))) ∧ ∃ p : Regrown, w'' = Sort.grow (redrawn wr p.d) p.os) := fun dd os => by
        rw [hFk]
        exact Calls.regrown_of (standing_calls (pLev ds k) q c Y (pNought k) (pNought_length k) (by omega) _ (hdl.below (below_regrown wr dd os) (Nat.le_refl _)))
      have R1 : Hid (∀ w', (∃ p : Regrown, w' = Sort.grow (redrawn wr p.d) p.os) → w'.heap[N + 1]? = some (.cells (bc (pNought k)) 24 (0, 0))) := fun w' ⟨p, hp⟩ => by
        rw [hp]; exact Below.at (below_regrown wr p.d p.os) hz q1
      have hput : Hid (putAt ((List.range k).flatMap F ++ List.replicate (32 * (32 - k)) 0) (k * 32) (F k) = (List.range (k + 1)).flatMap F ++ List.replicate (32 * (32 - (k + 1))) 0) := by
        rw [putAt_zeros _ _ _ _ (by rw [flat_len32 F (unhide HFl)]; omega) (by rw [unhide HFl]; omega), unhide HFl, List.range_succ, List.flatMap_append]
        rw [show 32 * (32 - k) - 32 = 32 * (32 - (k + 1)) by omega]
        exact hide (by simp)
      have hll2 : Hid (k * 32 + (F k).length ≤ ((List.range k).flatMap F ++ List.replicate (32 * (32 - k)) 0).length) := hide (by rw [List.length_append, flat_len32 F (unhide HFl), List.length_replicate, unhide HFl]; omega)
      have hiF := digInfo (F k) (unhide HFl k)
      have CA := hide (fun w2 h1 h2 => above_calls (pLev ds k) q c (pNought k) (pNought_length k) hll w2 h1 h2)
      have CN := hide (fun w2 h2 => node_calls (pNought k) (pNought k) (pNought_length k) (pNought_length k) w2 h2)
      have TB := hide tb
      have HDL := hide hdl
      have HFar := hide hfar
      have Q0 := hide q0
      have Q1 := hide q1
      have HB := hide hb
      have Hk := hide hlt
      have Hz := hide hz
      have b2 : (0 : Int) ≤ k ∧ (k : Int) < 32 := by omega
      generalize F k = FK at *
      clear q0 q1 hb hlt hz tb hdl hfar hFk hY hB hBl
      go_wp2_with fail
      refine wp_region_below_tail 10 mixed (by kernel_rfl) ?_
      simp only [List.take_succ_cons, List.take_zero, List.drop_succ_cons, List.drop_zero]
      quiet_step (fail)
      quiet_step (fail)
      quiet_step (fail)
      quiet_step (fail)
      quiet_step (fail)
      quiet_step (fail)
      quiet_step (fail)
      refine wpQuiet_load_row rfl 24 (.tmp 10) rfl (N + 1) rfl 24 _ (0, 0) _ (unhide R1) Tryd.underlying24 rfl hi ?_
      quiet_step (exact unhide kS _ _)
      quiet_step (fail)
      refine wpQuiet_nil ?_
      intro w2 hb2
      have p0 := Below.at hb2 (by have := unhide Hz; omega) (unhide Q0)
      have p1 := Below.at hb2 (unhide Hz) (unhide Q1)
      have bb : Below N w w2 := (unhide HB).trans (hb2.mono (by have := unhide Hz; omega))
      have dd2 := (unhide HDL).below hb2 (Nat.le_refl _)
      have zz2 : N + 1 < w2.heap.size := by have := unhide Hz; have := hb2.size; omega
      have P0 := hide p0
      have P1 := hide p1
      have BB := hide bb
      have D2 := hide dd2
      have Z2 := hide zz2
      clear p0 p1 bb hb2 dd2 zz2 R1 kS
      refine wpList_store_at rfl 24 (.tmp 39) (.tmp 38) rfl N (k * 32) _ FK 24 (by first | rfl | (simp; done)) rfl (unhide P0) (unhide hll2) hiF ?_
      intro w3 r1 r2 r3 r4
      rw [unhide hput] at r1
      have S0 := hide r1
      have S1 := hide ((r2 (N + 1) (by omega)).trans (unhide P1))
      have B3 := hide ((unhide BB).trans (r4 N (Nat.le_refl _)))
      have hdl3 := (unhide D2).other r3 (fun hne b off e => r2 b (by have := unhide HFar hne b off e; omega))
      have D3 := hide hdl3
      have tb3 := (unhide HT).below (unhide B3) (by rw [unhide HN]; exact Nat.le_refl _)
      have T3 := hide tb3
      have Z3 : Hid (N + 1 < w3.heap.size) := hide (by have := unhide Z2; omega)
      clear r1 r2 r3 r4 hdl3 tb3
      go_wp2_with (refine wpList_load_row rfl 24 (.tmp 10) rfl (N + 1) rfl 24 _ (0, 0) _ (unhide S1) Tryd.underlying24 rfl hi ?_)
      refine (unhide CA _ (unhide D3) (unhide T3)).mono ?_
      rintro e w4 ⟨⟨g4, c4, rfl, hc4, hg4, hdl4⟩, hb4⟩
      have p0 := Below.at hb4 (by have := unhide Z3; omega) (unhide S0)
      have p1 := Below.at hb4 (unhide Z3) (unhide S1)
      have bb : Below N w w4 := (unhide B3).trans (hb4.mono (by have := unhide Z3; omega))
      have tb4 := (unhide T3).below hb4 (Nat.le_refl _)
      have Hg4 : Hid (N + 1 < g4) := hide (by have := unhide Z3; omega)
      have V0 := hide p0
      have V1 := hide p1
      have B4 := hide bb
      have T4 := hide tb4
      have D4 := hide hdl4
      have Z4 : Hid (N + 1 < w4.heap.size) := hide (by have := unhide Z3; have := hb4.size; omega)
      clear p0 p1 bb tb4 hdl4 hc4 hg4 hb4
      go_wp2_with (refine wpList_load_row rfl 24 (.tmp 10) rfl (N + 1) rfl 24 _ (0, 0) _ (unhide V1) Tryd.underlying24 rfl hi ?_)
      refine (unhide CN _ (unhide T4)).mono ?_
      rintro e w5 ⟨rfl, hb5⟩
      have p0 := Below.at hb5 (by have := unhide Z4; omega) (unhide V0)
      have p1 := Below.at hb5 (unhide Z4) (unhide V1)
      have bb : Below N w w5 := (unhide B4).trans (hb5.mono (by have := unhide Z4; omega))
      have hdl5 := (unhide D4).below hb5 (Nat.le_refl _)
      have X0 := hide p0
      have X1 := hide p1
      have B5 := hide bb
      have D5 := hide hdl5
      clear p0 p1 bb hdl5 hb5
      go_wp2_with (refine wpList_store_row rfl 24 (.tmp 10) (.tmp 47) rfl (N + 1) _ rfl rfl 24 _ (unhide X1) hi1 hz1 ho1 ?_)
      refine ⟨⟨k + 1, by have := unhide Hk; omega, by go_num, below_setRow (unhide B5) (by omega) _, ?_, ?_, some ⟨g4, 0, none⟩, c4, rfl, ?_, ?_, ?_⟩, by have := unhide Hk; simp [intOf]; omega⟩
      · rw [setRow_other _ _ _ _ (by omega)]; exact unhide X0
      · exact setRow_heap _ _ _ _ _ _ (unhide X1)
      · have := pLev_len ds (k + 1); have := unhide Hlen; omega
      · exact (unhide D5).other (size_setRow _ _ _) (fun _ b off e => setRow_other _ _ _ _ (by simp at e; have := unhide Hg4; omega))
      · intro _ b off e
        simp at e
        have := unhide Hg4
        omega
    · have hd : decide ((k : Int) < 32) = false := by simp; omega
      have hkl : k = 32 := by omega
      rw [hkl, Nat.sub_self, Nat.mul_zero, List.replicate_zero, List.append_nil] at q0
      have Q0 := hide q0
      have HB := hide hb
      clear q0 q1 hb hkl hlt hdl hfar
      go_wp2
      go_ret2
      exact ⟨⟨N, 32, rfl, Nat.le_refl _, by rw [unhide HN]; exact Nat.le_refl _, DL_of_flat F (unhide HFl) 32 (unhide Q0)⟩, by rw [unhide HN]; exact unhide HB⟩
end Go.Proofs.YtljgfpdajodfcaaDoor

namespace Go.Proofs.YtljgfpdajodfcaaDoor
open Go Go.RowKit
set_option linter.unusedSimpArgs false
set_option linter.unusedVariables false

/-- What stands at a place of a level. -/
def st (ds : List (List UInt8)) : Nat → Nat → List UInt8
  | 0, i => pStand ds i (pNought 0)
  | k + 1, i => pNode (st ds k (2 * i)) (st ds k (2 * i + 1))
theorem stand_st (ds : List (List UInt8)) : ∀ k i, pStand (pLev ds k) i (pNought k) = st ds k i
  | 0, i => rfl
  | k + 1, i => by
    have ih := stand_st ds k
    show _ = pNode (st ds k (2 * i)) (st ds k (2 * i + 1))
    rw [← ih (2 * i), ← ih (2 * i + 1)]
    show pStand (pAbove (pLev ds k) (pNought k)) i (pNode (pNought k) (pNought k)) = _
    generalize pLev ds k = L
    generalize pNought k = z
    by_cases h : i < (L.length + 1) / 2
    · have e : pStand (pAbove L z) i (pNode z z) = aboveAt L z i := by
        unfold pStand
        rw [if_pos (by rw [pAbove_length]; exact h), pAbove_at L z i h]
      rw [e]
      unfold aboveAt
      have e2 : pStand L (2 * i) z = L.getD (2 * i) [] := by unfold pStand; rw [if_pos (by omega)]
      rw [e2]
    · have e : pStand (pAbove L z) i (pNode z z) = pNode z z := by
        unfold pStand
        rw [if_neg (by rw [pAbove_length]; exact h)]
      have e1 : pStand L (2 * i) z = z := by unfold pStand; rw [if_neg (by omega)]
      have e2 : pStand L (2 * i + 1) z = z := by unfold pStand; rw [if_neg (by omega)]
      rw [e, e1, e2]
theorem xor1 (B : Nat) : B ^^^ 1 = if B % 2 = 1 then B - 1 else B + 1 := by
  have h1 : (B ^^^ 1) / 2 = B / 2 := by rw [Nat.xor_div_two]; simp
  have h2 : (B ^^^ 1) % 2 ^ 1 = (B % 2 ^ 1) ^^^ (1 % 2 ^ 1) := Nat.xor_mod_two_pow
  rw [Nat.pow_one] at h2
  rcases Nat.mod_two_eq_zero_or_one B with h | h
  · rw [h] at h2
    rw [h, if_neg (by decide)]
    have h3 : (B ^^^ 1) % 2 = 1 := h2
    omega
  · rw [h] at h2
    rw [h, if_pos rfl]
    have h3 : (B ^^^ 1) % 2 = 0 := h2
    omega
theorem of_st (ds : List (List UInt8)) (h : ds.length ≤ 4096) : pOfD ds = st ds 32 0 := by
  unfold pOfD
  rw [List.take_of_length_le h, stand_st]
theorem branch_at (ds : List (List UInt8)) (x k : Nat) (hk : k < 32) : (pBranch ds x).getD k [] = st ds k ((x / 2 ^ k) ^^^ 1) := by
  unfold pBranch
  simp [hk, sideAt, stand_st]
theorem climb_st (ds : List (List UInt8)) (x : Nat) (leaf : List UInt8) (hl : leaf = st ds 0 x) : ∀ k, k ≤ 32 → pClimb leaf x (pBranch ds x) k = st ds k (x / 2 ^ k)
  | 0, _ => by rw [Nat.pow_zero, Nat.div_one]; exact hl
  | k + 1, hk => by
    have ih := climb_st ds x leaf hl k (by omega)
    have e : x / 2 ^ (k + 1) = x / 2 ^ k / 2 := by rw [Nat.pow_succ, ← Nat.div_div_eq_div_mul]
    show (if x / 2 ^ k % 2 = 1 then pNode ((pBranch ds x).getD k []) (pClimb leaf x (pBranch ds x) k) else pNode (pClimb leaf x (pBranch ds x) k) ((pBranch ds x).getD k [])) = _
    rw [branch_at ds x k (by omega), ih, e, xor1]
    generalize x / 2 ^ k = B
    show _ = pNode (st ds k (2 * (B / 2))) (st ds k (2 * (B / 2) + 1))
    by_cases h : B % 2 = 1
    · rw [if_pos h, if_pos h, show 2 * (B / 2) = B - 1 by omega, show B - 1 + 1 = B by omega]
    · rw [if_neg h, if_neg h, show 2 * (B / 2) = B by omega]
/-- Each leaf's branch proves it. -/
theorem branch_proves (ds : List (List UInt8)) (h : ds.length ≤ 4096) (x : Nat) (hx : x < ds.length) : pProves (pOfD ds) (ds.getD x []) x (pBranch ds x) = true := by
  unfold pProves
  rw [pBranch_length, of_st ds h]
  have e := climb_st ds x (ds.getD x []) (by show _ = pStand ds x _; unfold pStand; rw [if_pos hx]) 32 (Nat.le_refl _)
  rw [Nat.div_eq_of_lt (show x < 2 ^ 32 by omega)] at e
  rw [e]; simp
theorem of_nil : pOfD [] = pNought 32 := by
  rw [of_st [] (by simp)]
  have : ∀ k i, st [] k i = pNought k := fun k => by
    induction k with
    | zero => intro i; show pStand [] i _ = _; unfold pStand; simp
    | succ k ih => intro i; show pNode _ _ = _; rw [ih, ih]; rfl
  exact this 32 0
end Go.Proofs.YtljgfpdajodfcaaDoor

namespace Go.Proofs.YtljgfpdajodfcaaDoor
open Go.RowKit
set_option linter.unusedSimpArgs false
set_option linter.unusedVariables false

theorem wpList_store_new {P : Program} {ops : Array Oper} {rest : List Oper} {op : Oper} {a : Act} {Q : Exit → Act → World → Prop} (hgd : op.guard = none) (ty : TypeId) (x y : Operand) (ho : op.op = .store ty x y)
    (W0 : World) (Z : Array Value) (t : TypeId) (D : List UInt8) (hx : a.eval x = .pointer (some ⟨W0.heap.size, 0, none⟩)) (hy : a.eval y = .agg (bc D))
    (hi : (P.info? ty).map (·.size) = some (bc D).size) (hz : Z.size = (bc D).size)
    (h : ∀ w', w'.heap[W0.heap.size]? = some (.cells (bc D) t (0, 0)) → Below W0.heap.size W0 w' → w'.heap.size = W0.heap.size + 1 → wpList P ops Q rest (a.put op.dst undef) w') :
    wpList P ops Q (op :: rest) a (W0.alloc (.cells Z t)) := by
  refine wpList_store_row hgd ty x y ho W0.heap.size (bc D) hx hy t Z (al1 _ _) hi hz (bc_oneCell D) ?_
  exact h _ (setRow_heap _ _ _ _ _ _ (al1 W0 (.cells Z t))) (below_setRow ((Below.refl _ _).alloc (Nat.le_refl _) _) (Nat.le_refl _) _) (by rw [setRow_size, World.size_alloc])
end Go.Proofs.YtljgfpdajodfcaaDoor

namespace Go.Proofs.YtljgfpdajodfcaaDoor
open Go Go.RowKit
set_option linter.unusedSimpArgs false
set_option linter.unusedVariables false

/-- A list lies in no block of the log. -/
def Out (p : Option Addr) (S : Nat → Prop) : Prop := ∀ a, p = some a → ¬ S a.block
/-- What a call that notes leaves: more inputs, C at most, of which P holds. -/
def QS (L : Nat) (S : Nat → Prop) (I : List (List UInt8)) (C : Nat) (P : List (List UInt8) → Prop) (w w' : World) : Prop :=
  ∃ S' I', RLogAt w' L S' I' ∧ RBut S w w' ∧ (∀ k, S' k → S k ∨ w.heap.size ≤ k) ∧ (∀ s ∈ I, s ∈ I') ∧ P I' ∧ I'.length ≤ I.length + C
theorem QS.same {L : Nat} {S : Nat → Prop} {I : List (List UInt8)} {C : Nat} {P : List (List UInt8) → Prop} {w w' : World} (h : RLogAt w L S I) (hb : Below w.heap.size w w') (hP : P I) : QS L S I C P w w' :=
  ⟨S, I, h.below hb, RBut.of_below hb, fun k h => .inl h, fun s h => h, hP, Nat.le_add_right _ _⟩
/-- The inputs of all nodes below one that isn't empty. -/
def Noted (ds : List (List UInt8)) : Nat → Nat → List (List UInt8) → Prop
  | 0, _, _ => True
  | k + 1, x, I => ds.length ≤ x * 2 ^ (k + 1) ∨ (pIn (st ds k (2 * x)) (st ds k (2 * x + 1)) ∈ I ∧ Noted ds k (2 * x) I ∧ Noted ds k (2 * x + 1) I)
theorem Noted.mono {ds : List (List UInt8)} : ∀ {k x : Nat} {I J : List (List UInt8)}, Noted ds k x I → (∀ s ∈ I, s ∈ J) → Noted ds k x J
  | 0, _, _, _, _, _ => trivial
  | k + 1, x, I, J, h, hs => h.imp_right (fun ⟨h1, h2, h3⟩ => ⟨hs _ h1, h2.mono hs, h3.mono hs⟩)
theorem rangeAt_of {w w' : World} {b off : Nat} {cs : List Value} (h : w.rangeAt b off cs) (hb : w'.heap[b]? = w.heap[b]?) : w'.rangeAt b off cs := fun i v hv => by
  rw [← h i v hv]
  exact World.cell?_of_block (w := w) hb
theorem DL.rbut {S : Nat → Prop} {w w' : World} {p : Option Addr} {ds : List (List UInt8)} (h : DL w p ds) (hb : RBut S w w') (ho : ds ≠ [] → Out p S) : DL w' p ds := by
  refine ⟨h.1, fun hn => ?_⟩
  obtain ⟨b, off, rfl, hlt, hc⟩ := h.2 hn
  exact ⟨b, off, rfl, Nat.lt_of_lt_of_le hlt hb.size, fun i hi => rangeAt_of (hc i hi) (hb.block b hlt (ho hn _ rfl))⟩
theorem Out.step {S S' : Nat → Prop} {w : World} {p : Option Addr} {ds : List (List UInt8)} (h : Out p S) (hD : DL w p ds) (hM : ∀ k, S' k → S k ∨ w.heap.size ≤ k) (hne : ds ≠ []) : Out p S' := by
  obtain ⟨b, off, rfl, hlt, hc⟩ := hD.2 hne
  intro a e hs
  cases e
  rcases hM _ hs with h1 | h1
  · exact h _ rfl h1
  · exact absurd hlt (by show ¬ b < _; have : w.heap.size ≤ b := h1; omega)
theorem st_behindQ (ds : List (List UInt8)) : ∀ k i, ds.length ≤ i * 2 ^ k → st ds k i = pNought k
  | 0, i, h => by
    rw [Nat.pow_zero, Nat.mul_one] at h
    show pStand _ _ _ = _
    unfold pStand
    rw [if_neg (by omega)]
  | k + 1, i, h => by
    have e : i * 2 ^ (k + 1) = (2 * i) * 2 ^ k := by rw [Nat.pow_succ, Nat.mul_comm (2 ^ k) 2, ← Nat.mul_assoc]; congr 1; omega
    rw [e] at h
    show pNode _ _ = pNode _ _
    rw [st_behindQ ds k (2 * i) h, st_behindQ ds k (2 * i + 1) (Nat.le_trans h (Nat.mul_le_mul_right _ (by omega)))]
theorem noughts_atQ (k : Nat) (hk : k < 33) : ((List.range 33).map pNought).getD k [] = pNought k := by simp [hk]
theorem st_lengthQ (ds : List (List UInt8)) (h : ∀ d ∈ ds, d.length = 32) (k i : Nat) : (st ds k i).length = 32 := by
  rw [← stand_st]
  exact pStand_length (pLev_32 ds h k) _ _ (pNought_length k)
set_option maxHeartbeats 2000000 in
set_option maxRecDepth 100000 in
theorem rnodeQ_calls (ds : List (List UInt8)) (hlen : ds.length ≤ 100000000) (pz pl : Option Addr) (cz cl : Nat) (L : Nat) : ∀ (k : Nat), k ≤ 32 → ∀ (x : Nat), (x + 1) * 2 ^ k ≤ 70368744177664 → ∀ (S : Nat → Prop) (I : List (List UInt8)) (hI : I.length + 2 ^ k ≤ 1099511627776) (w : World) (hL : RLogAt w L S I) (oz : Out pz S) (ol : ds ≠ [] → Out pl S), DL w pz ((List.range 33).map pNought) → DL w pl ds →
    Calls Tryd.prog 13 #[.pointer (some ⟨L, 0, none⟩), .slice pz 33 cz, .slice pl ds.length cl, .int .i64 (k : Int), .int .i64 (x : Int)] w fun e w' => e = .returned (.agg (bc (st ds k x))) ∧ QS L S I (2 ^ k - 1) (Noted ds k x) w w' := by
  intro k
  induction k with
  | zero =>
    intro hk x hx S I hI w hL oz ol hZ hD
    have HLL := hide hL
    clear hL oz ol hI
    have a1 := al1 w (.cells (bc (List.replicate 32 0)) 24)
    have b1 := hide ((Below.refl w.heap.size w).alloc (Nat.le_refl _) (.cells (bc (List.replicate 32 0)) 24))
    have cs := hide fun w => rsize_calls 0 (by decide) w
    have hx1 : x ≤ 70368744177664 := by simp at hx; omega
    have hp : (x : Int) * 1 = (x : Int) := by omega
    obtain ⟨X, hX⟩ : ∃ X, w.alloc (.cells (bc (List.replicate 32 0)) 24) = X := ⟨_, rfl⟩
    rw [hX] at a1 b1
    have HX := hide hX
    clear hX
    by_cases hlt : ds.length ≤ x
    · have hd : decide (ds.length ≤ x) = true := by simpa using hlt
      rw [st_behindQ ds 0 x (by simpa using hlt)]
      obtain ⟨b, off, rfl, hbz, hc⟩ := hZ.2 (by simp)
      have hr := rangeAt_below (hc 0 (by simp)) (unhide b1) hbz
      rw [noughts_atQ 0 (by decide)] at hr
      have hi := digInfo (pNought 0) (pNought_length 0)
      have hz : Hid ((bc (List.replicate 32 (0 : UInt8))).size = (bc (pNought 0)).size) := by show _ = _; rw [bc_size, bc_size, pNought_length]; rfl
      have ho := bc_oneCell (pNought 0)
      have hl : Hid ((pNought 0).length = 32) := pNought_length 0
      obtain ⟨D, hDD⟩ : ∃ D, pNought 0 = D := ⟨_, rfl⟩
      rw [hDD] at hr hi hz ho hl
      rw [hDD]
      have HR := hide hr
      clear hr hc hZ hD hDD hlt hx
      go_enter Tryd.func13, Tryd.ntmps13
      go_wp2_with fail
      refine (unhide cs _).mono ?_
      rintro e w2 ⟨rfl, hw2⟩
      have e2 : w2 = X := hw2.trans (unhide HX)
      clear hw2 HX
      subst e2
      go_wp2_with (first
        | refine wpList_load_mid rfl 24 (.tmp 22) rfl b (off + 0 * 32) rfl (Lib.byteCells D) _ (unhide HR) Tryd.underlying24 rfl (by rw [Lib.byteCells_length, unhide hl]; kernel_rfl) ?_
        | refine wpList_store_row rfl 24 (.tmp 10) (.tmp 23) rfl w.heap.size (bc D) rfl rfl 24 _ a1 hi (unhide hz) ho ?_)
      exact bodyPost_ret (results_cell_row rfl _ _ w.heap.size _ _ _ _ rfl (setRow_heap _ _ _ _ _ _ a1) Tryd.underlying24 rfl hi) rfl ⟨rfl, QS.same (unhide HLL) (below_setRow (unhide b1) (Nat.le_refl _) _) trivial⟩
    · have hd : decide (ds.length ≤ x) = false := by simpa using hlt
      have hxl : x < ds.length := by omega
      obtain ⟨b, off, rfl, hbz, hc⟩ := hD.2 (by intro h; rw [h] at hxl; simp at hxl)
      have hr := rangeAt_below (hc x hxl) (unhide b1) hbz
      have hl0 := hD.len x hxl
      have est : st ds 0 x = ds.getD x [] := by show pStand _ _ _ = _; unfold pStand; rw [if_pos hxl]
      rw [est]
      obtain ⟨D, hDD⟩ : ∃ D, ds.getD x [] = D := ⟨_, rfl⟩
      rw [hDD] at hr hl0
      rw [hDD]
      have hi := digInfo D hl0
      have hz : Hid ((bc (List.replicate 32 (0 : UInt8))).size = (bc D).size) := by show _ = _; rw [bc_size, bc_size, hl0]; rfl
      have ho := bc_oneCell D
      have hl := hide hl0
      have HR := hide hr
      have b3 : (0 : Int) ≤ (x : Int) ∧ (x : Int) < (ds.length : Int) := by omega
      clear hr hc hZ hD hDD hlt hx hl0 est hxl
      go_enter Tryd.func13, Tryd.ntmps13
      go_wp2_with fail
      refine (unhide cs _).mono ?_
      rintro e w2 ⟨rfl, hw2⟩
      have e2 : w2 = X := hw2.trans (unhide HX)
      clear hw2 HX
      subst e2
      go_wp2_with (first
        | refine wpList_load_mid rfl 24 (.tmp 28) rfl b (off + x * 32) rfl (Lib.byteCells D) _ (unhide HR) Tryd.underlying24 rfl (by rw [Lib.byteCells_length, unhide hl]; kernel_rfl) ?_
        | refine wpList_store_row rfl 24 (.tmp 10) (.tmp 29) rfl w.heap.size (bc D) rfl rfl 24 _ a1 hi (unhide hz) ho ?_)
      exact bodyPost_ret (results_cell_row rfl _ _ w.heap.size _ _ _ _ rfl (setRow_heap _ _ _ _ _ _ a1) Tryd.underlying24 rfl hi) rfl ⟨rfl, QS.same (unhide HLL) (below_setRow (unhide b1) (Nat.le_refl _) _) trivial⟩
  | succ k ih =>
    intro hk x hx S I hI w hL oz ol hZ hD
    have HLL := hide hL
    have HOLD := hide hL.old
    have OZ := hide oz
    have OL := hide ol
    have HII := hide hI
    clear hL oz ol
    have a1 := al1 w (.cells (bc (List.replicate 32 0)) 24)
    have b1 := hide ((Below.refl w.heap.size w).alloc (Nat.le_refl _) (.cells (bc (List.replicate 32 0)) 24))
    have cs := fun w => rsize_calls (k + 1) (by omega) w
    have hpow : 2 ^ (k + 1) = 2 * 2 ^ k := by rw [Nat.pow_succ]; omega
    obtain ⟨P, hP⟩ : ∃ P : Nat, x * 2 ^ (k + 1) = P := ⟨_, rfl⟩
    have hP2 : P ≤ 70368744177664 := by rw [← hP]; exact Nat.le_trans (Nat.mul_le_mul_right _ (Nat.le_succ x)) hx
    have hpos : 1 ≤ 2 ^ k := Nat.one_le_two_pow
    have hx1 : x ≤ 70368744177664 := Nat.le_trans (Nat.le_trans (by omega : x ≤ x + 1) (Nat.le_mul_of_pos_right _ (by omega))) hx
    have c1 := fun S I hI w hL oz ol => ih (by omega) (2 * x) (by rw [hpow, ← Nat.mul_assoc] at hx; refine Nat.le_trans (Nat.mul_le_mul_right _ (by omega : 2 * x + 1 ≤ (x + 1) * 2)) hx) S I hI w hL oz ol
    have c2 := fun S I hI w hL oz ol => ih (by omega) (2 * x + 1) (by rw [hpow, ← Nat.mul_assoc] at hx; refine Nat.le_trans (Nat.mul_le_mul_right _ (by omega : 2 * x + 1 + 1 ≤ (x + 1) * 2)) hx) S I hI w hL oz ol
    have HNo : Hid (∀ J, ds.length ≤ x * 2 ^ (k + 1) → Noted ds (k + 1) x J) := hide fun J h => .inl h
    have HNt : Hid (∀ J, pIn (st ds k (2 * x)) (st ds k (2 * x + 1)) ∈ J → Noted ds k (2 * x) J → Noted ds k (2 * x + 1) J → Noted ds (k + 1) x J) := hide fun J h1 h2 h3 => .inr ⟨h1, h2, h3⟩
    have HCt : Hid (2 ^ (k + 1) - 1 = (2 ^ k - 1) + (2 ^ k - 1) + 1) := hide (by omega)
    obtain ⟨CC, hCC⟩ : ∃ C, 2 ^ (k + 1) - 1 = C := ⟨_, rfl⟩
    rw [hCC] at HCt ⊢
    have HI2 : Hid (I.length + 2 ^ k + 2 ^ k ≤ 1099511627776) := hide (by omega)
    clear hI HII
    obtain ⟨K2, hK2⟩ : ∃ C, 2 ^ k = C := ⟨_, rfl⟩
    have HK1 : Hid (1 ≤ K2) := hide (by rw [← hK2]; exact hpos)
    rw [hK2] at HCt HI2 c1 c2
    obtain ⟨M, hM⟩ : ∃ M, 2 ^ (k + 1) = M := ⟨_, rfl⟩
    have hMb : M ≤ 4294967296 := by rw [← hM]; exact Nat.le_trans (Nat.pow_le_pow_right (by decide) hk) (by decide)
    rw [hM] at hP cs HNo
    rw [hP] at HNo
    have hp : (x : Int) * (M : Int) = (P : Int) := by rw [← hP]; push_cast; rfl
    obtain ⟨K, hK⟩ : ∃ K, k + 1 = K := ⟨_, rfl⟩
    have hK1 : (K : Int) - 1 = (k : Int) := by omega
    have hK0 : ((K : Int) == 0) = false := by simp; omega
    have hKb : K ≤ 32 := by omega
    obtain ⟨y, hy⟩ : ∃ y, 2 * x = y := ⟨_, rfl⟩
    have hy1 : 2 * (x : Int) = (y : Int) := by omega
    obtain ⟨y1, hy2⟩ : ∃ y1, y + 1 = y1 := ⟨_, rfl⟩
    have hy3 : (y : Int) + 1 = (y1 : Int) := by omega
    have hyb : y1 ≤ 140737488355329 := by omega
    rw [hy] at c1 c2 HNt
    rw [hy2] at c2 HNt
    have hl1 := st_lengthQ ds hD.1 k y
    have hl2 := st_lengthQ ds hD.1 k y1
    have hlt' := st_lengthQ ds hD.1 (k + 1) x
    have est : st ds (k + 1) x = pNode (st ds k y) (st ds k y1) := by rw [← hy2, ← hy]; rfl
    have ebeh := st_behindQ ds (k + 1) x
    rw [hM, hP] at ebeh
    have hZk : k + 1 < 33 := by omega
    have hnz := noughts_atQ (k + 1) hZk
    rw [hK] at cs est ebeh hnz hZk hlt' HNo HNt
    rw [hK]
    have cs := hide cs
    obtain ⟨X, hX⟩ : ∃ X, w.alloc (.cells (bc (List.replicate 32 0)) 24) = X := ⟨_, rfl⟩
    rw [hX] at a1 b1
    have HX := hide hX
    have zX := hide (Array.getElem?_eq_some_iff.1 a1).1
    clear hX hpow hP hpos hM hy hy2 ih hx hK2 hCC
    by_cases hlt : ds.length ≤ P
    · have hd : decide (ds.length ≤ P) = true := by simpa using hlt
      rw [ebeh hlt]
      have HNN := hide (unhide HNo I hlt)
      obtain ⟨b, off, rfl, hbz, hc⟩ := hZ.2 (by simp)
      have hr := rangeAt_below (hc K (by simpa using hZk)) (unhide b1) hbz
      rw [hnz] at hr
      have hi := digInfo (pNought K) (pNought_length K)
      have hz : Hid ((bc (List.replicate 32 (0 : UInt8))).size = (bc (pNought K)).size) := by show _ = _; rw [bc_size, bc_size, pNought_length]; rfl
      have ho := bc_oneCell (pNought K)
      have hl : Hid ((pNought K).length = 32) := pNought_length K
      obtain ⟨D, hDD⟩ : ∃ D, pNought K = D := ⟨_, rfl⟩
      rw [hDD] at hr hi hz ho hl
      rw [hDD]
      have HR := hide hr
      have b3 : (0 : Int) ≤ (K : Int) ∧ (K : Int) < 33 := by omega
      clear HNo HNt HCt HI2 HK1 hr hc hZ hD hDD hlt c1 c2 hnz est ebeh hl1 hl2 hlt' hK hZk hK1 hy1 hy3
      go_enter Tryd.func13, Tryd.ntmps13
      go_wp2_with fail
      refine (unhide cs _).mono ?_
      rintro e w2 ⟨rfl, hw2⟩
      have e2 : w2 = X := hw2.trans (unhide HX)
      clear hw2 HX
      subst e2
      go_wp2_with (first
        | refine wpList_load_mid rfl 24 (.tmp 22) rfl b (off + K * 32) rfl (Lib.byteCells D) _ (unhide HR) Tryd.underlying24 rfl (by rw [Lib.byteCells_length, unhide hl]; kernel_rfl) ?_
        | refine wpList_store_row rfl 24 (.tmp 10) (.tmp 23) rfl w.heap.size (bc D) rfl rfl 24 _ a1 hi (unhide hz) ho ?_)
      exact bodyPost_ret (results_cell_row rfl _ _ w.heap.size _ _ _ _ rfl (setRow_heap _ _ _ _ _ _ a1) Tryd.underlying24 rfl hi) rfl ⟨rfl, QS.same (unhide HLL) (below_setRow (unhide b1) (Nat.le_refl _) _) (unhide HNN)⟩
    · have hd : decide (ds.length ≤ P) = false := by simpa using hlt
      have hZX := hide (hZ.below (unhide b1) (Nat.le_refl _))
      have hDX := hide (hD.below (unhide b1) (Nat.le_refl _))
      rw [est] at hlt' ⊢
      have cT := fun L S I hI W hL => rnode2Q_calls _ _ hl1 hl2 L S I hI W hL
      obtain ⟨D1, hD1⟩ : ∃ D, st ds k y = D := ⟨_, rfl⟩
      obtain ⟨D2, hD2⟩ : ∃ D, st ds k y1 = D := ⟨_, rfl⟩
      rw [hD1] at c1 hl1 HNt
      rw [hD2] at c2 hl2 HNt
      rw [hD1, hD2] at hlt' cT
      rw [hD1, hD2]
      obtain ⟨D3, hD3⟩ : ∃ D, pNode D1 D2 = D := ⟨_, rfl⟩
      rw [hD3] at hlt' cT
      rw [hD3]
      have hi1 := digInfo D1 hl1
      have hi2 := digInfo D2 hl2
      have hi3 := digInfo D3 hlt'
      have hz1 := zeroSize D1 hl1
      have hz2 := zeroSize D2 hl2
      have hz3 : Hid ((bc (List.replicate 32 (0 : UInt8))).size = (bc D3).size) := by show _ = _; rw [bc_size, bc_size, hlt']; rfl
      have ho3 := bc_oneCell D3
      have C1 := hide c1
      have C2 := hide c2
      have CT := hide cT
      have HNE : Hid (ds ≠ []) := hide (by intro h; rw [h] at hlt; simp at hlt)
      have LX : Hid (RLogAt X L S I) := hide ((unhide HLL).below (unhide b1))
      clear hZ hD hD1 hD2 hD3 hlt c1 c2 cT hnz est ebeh hl1 hl2 hlt' hK hZk HNo
      go_enter Tryd.func13, Tryd.ntmps13
      go_wp2_with fail
      refine (unhide cs _).mono ?_
      rintro e w2 ⟨rfl, hw2⟩
      have e2 : w2 = X := hw2.trans (unhide HX)
      clear hw2 HX
      subst e2
      go_wp2_with fail
      refine (unhide C1 S I (by have := unhide HI2; omega) _ (unhide LX) (unhide OZ) (unhide OL) (unhide hZX) (unhide hDX)).mono ?_
      rintro e w3 ⟨rfl, S3, I3, L3, B3, M3, mo3, nt3, le3⟩
      have p0 := (B3.block _ (unhide zX) (fun h => by have := unhide HOLD _ h; omega)).trans a1
      have z3 := hide (Nat.lt_of_lt_of_le (unhide zX) B3.size)
      have dZ := hide ((unhide hZX).rbut B3 (fun _ => unhide OZ))
      have dD := hide ((unhide hDX).rbut B3 (unhide OL))
      have OZ3 := hide (Out.step (unhide OZ) (unhide hZX) M3 (by simp))
      have OL3 := hide (Out.step (unhide OL (unhide HNE)) (unhide hDX) M3 (unhide HNE))
      have N3 : Hid (¬ S3 w.heap.size) := hide fun h => by rcases M3 _ h with h | h; have := unhide HOLD _ h; omega; have := unhide zX; omega
      have P0 := hide p0
      have HL3 := hide L3
      have HB3 := hide B3
      have HM3 := hide M3
      have Hmo3 := hide mo3
      have Hnt3 := hide nt3
      have Hle3 := hide le3
      clear p0 B3 C1 a1 hZX hDX L3 M3 mo3 nt3 le3 OZ OL
      go_wp2_with (refine wpList_store_new rfl 24 (.tmp 11) (.tmp 37) rfl w3 _ _ D1 rfl rfl hi1 hz1 ?_; intro w4 q4 b4 y4; have P4 := hide (Below.at b4 (unhide z3) (unhide P0)); have dZ4 := hide ((unhide dZ).below b4 (Nat.le_refl _)); have dD4 := hide ((unhide dD).below b4 (Nat.le_refl _)); have L4 := hide ((unhide HL3).below b4); have B4 := hide ((unhide HB3).then_below b4 (unhide HB3).size); clear b4 P0 dZ dD)
      have Q4 := hide q4
      have z4 := hide (Array.getElem?_eq_some_iff.1 q4).1
      have G4 : Hid (¬ S3 w3.heap.size) := hide fun h => by have := (unhide HL3).old _ h; omega
      obtain ⟨G1, hG1⟩ : ∃ G, w3.heap.size = G := ⟨_, rfl⟩
      rw [hG1] at Q4 z4 z3 G4
      simp only [hG1]
      clear q4 y4 hG1
      refine (unhide C2 S3 I3 (by have := unhide HI2; have := unhide Hle3; omega) _ (unhide L4) (unhide OZ3) (fun _ => unhide OL3) (unhide dZ4) (unhide dD4)).mono ?_
      rintro e w5 ⟨rfl, S5, I5, L5, B5, M5, mo5, nt5, le5⟩
      have z4' : w.heap.size < w4.heap.size := Nat.lt_trans (unhide z3) (unhide z4)
      have P5 := hide ((B5.block _ z4' (unhide N3)).trans (unhide P4))
      have Q5 := hide ((B5.block _ (unhide z4) (unhide G4)).trans (unhide Q4))
      have z5 := hide (Nat.lt_of_lt_of_le (unhide z4) B5.size)
      have N5 : Hid (¬ S5 w.heap.size) := hide fun h => by rcases M5 _ h with h | h; exact unhide N3 h; omega
      have G5 : Hid (¬ S5 G1) := hide fun h => by rcases M5 _ h with h | h; exact unhide G4 h; have := unhide z4; omega
      have BX5 := hide ((unhide B4).trans B5 (unhide HM3))
      have MX5 : Hid (∀ k, S5 k → S k ∨ w2.heap.size ≤ k) := hide fun k h => (M5 k h).elim (unhide HM3 k) (fun h2 => .inr (Nat.le_trans (unhide B4).size h2))
      have HL5 := hide L5
      have Hmo5 := hide mo5
      have Hnt5 := hide nt5
      have Hle5 := hide le5
      clear B5 z4' C2 dZ4 dD4 P4 Q4 B4 HB3 L5 M5 mo5 nt5 le5 L4 HL3 HM3 G4 N3 OZ3 OL3
      go_wp2_with (first
        | (refine wpList_store_new rfl 24 (.tmp 12) (.tmp 46) rfl w5 _ _ D2 rfl rfl hi2 hz2 ?_; intro w6 q6 b6 y6; have Q6 := hide (Below.at b6 (unhide z5) (unhide Q5)); have P6 := hide (Below.at b6 (Nat.lt_trans (unhide z3) (unhide z5)) (unhide P5)); have L6 := hide ((unhide HL5).below b6); have B6 := hide ((unhide BX5).then_below b6 (unhide BX5).size); clear b6 P5 Q5)
        | refine wpList_load_row rfl 24 (.tmp 11) rfl G1 rfl 24 _ (0, 0) _ (unhide Q6) Tryd.underlying24 rfl hi1 ?_
        | refine wpList_load_row rfl 24 (.tmp 12) rfl w5.heap.size rfl 24 _ (0, 0) _ q6 Tryd.underlying24 rfl hi2 ?_)
      have z6 : w.heap.size < w6.heap.size := Nat.lt_trans (Nat.lt_trans (unhide z3) (unhide z5)) (Array.getElem?_eq_some_iff.1 q6).1
      refine (unhide CT L S5 I5 (by have := unhide HI2; have := unhide Hle3; have := unhide Hle5; have := unhide HK1; omega) _ (unhide L6)).mono ?_
      rintro e w7 ⟨rfl, S7, L7, B7, M7⟩
      have P7 := (B7.block _ z6 (unhide N5)).trans (unhide P6)
      have BX7 := hide ((unhide B6).trans B7 (unhide MX5))
      have N7 : ¬ S7 w.heap.size := fun h => by rcases M7 _ h with h | h; exact unhide N5 h; omega
      have MX7 : Hid (∀ k, S7 k → S k ∨ w.heap.size ≤ k) := hide fun k h => (M7 k h).elim (fun h => (unhide MX5 k h).imp_right (fun h2 => by have := (unhide b1).size; omega)) (fun h2 => .inr (by omega))
      have HL7 := hide (L7.kept (w' := w7.setRow w.heap.size (bc D3)) (fun k hk => setRow_other _ _ _ _ (fun e => N7 (by rw [← e]; exact hk))) (by rw [setRow_size]; exact Nat.le_refl _))
      clear z6 P6 q6 y6 CT B7 M7 L7 N7
      go_wp2_with (refine wpList_store_row rfl 24 (.tmp 10) (.tmp 50) rfl w.heap.size (bc D3) rfl rfl 24 _ P7 hi3 (unhide hz3) ho3 ?_)
      refine bodyPost_ret (results_cell_row rfl _ _ w.heap.size _ _ _ _ rfl (setRow_heap _ _ _ _ _ _ P7) Tryd.underlying24 rfl hi3) rfl ⟨rfl, S7, rnoted (pIn D1 D2) I5, unhide HL7, ?_, unhide MX7, ?_, ?_, ?_⟩
      · have r := unhide BX7
        have rb := unhide b1
        exact ⟨r.os.trans rb.os, r.tape.trans rb.tape, r.output.trans rb.output, by rw [setRow_size]; exact Nat.le_trans rb.size r.size, fun k hk hn => (setRow_other _ _ _ _ (by omega)).trans ((r.block k (Nat.lt_of_lt_of_le hk rb.size) hn).trans (rb.block k hk))⟩
      · exact fun s h => mem_rnoted_old _ _ _ (unhide Hmo5 s (unhide Hmo3 s h))
      · exact unhide HNt _ (mem_rnoted _ _) ((unhide Hnt3).mono (fun s h => mem_rnoted_old _ _ _ (unhide Hmo5 s h))) ((unhide Hnt5).mono (fun s h => mem_rnoted_old _ _ _ h))
      · have := rnoted_le (pIn D1 D2) I5
        have := unhide Hle3
        have := unhide Hle5
        have := unhide HCt
        have := unhide HK1
        omega
end Go.Proofs.YtljgfpdajodfcaaDoor

namespace Go.Proofs.YtljgfpdajodfcaaDoor
open Go Go.RowKit
set_option linter.unusedSimpArgs false
set_option linter.unusedVariables false

/-- What a climb notes. -/
def cIn (leaf : List UInt8) (x : Nat) (ds : List (List UInt8)) (k : Nat) : List UInt8 := if x / 2 ^ k % 2 = 1 then pIn (ds.getD k []) (pClimb leaf x ds k) else pIn (pClimb leaf x ds k) (ds.getD k [])
set_option maxHeartbeats 1000000 in
set_option maxRecDepth 100000 in
theorem rof7Q_calls (ds : List (List UInt8)) (p : Option Addr) (cap : Nat) (hcap : ds.length ≤ cap) (hlen : ds.length ≤ 100000000) (L : Nat) (S : Nat → Prop) (I : List (List UInt8)) (hI : I.length ≤ 1000000) (w : World) (hL : RLogAt w L S I) (hO : ds ≠ [] → Out p S) (hD : DL w p ds) :
    Calls Tryd.prog 6 #[.pointer (some ⟨L, 0, none⟩), .slice p ds.length cap] w fun e w' => e = .returned (.agg (bc (pOfD ds))) ∧ QS L S I (33 + (2 ^ 32 - 1)) (fun J => (∀ j, j < 33 → pIn (pNought j) (pNought j) ∈ J) ∧ Noted (ds.take 4096) 32 0 J) w w' := by
  have a1 := al1 w (.cells (bc (List.replicate 32 0)) 24)
  have b1 := hide ((Below.refl w.heap.size w).alloc (Nat.le_refl _) (.cells (bc (List.replicate 32 0)) 24))
  have zX := hide (Array.getElem?_eq_some_iff.1 a1).1
  have cf := hide fun w => rfirst_calls p ds.length cap hcap (by omega) w
  have htk : min ds.length 4096 = (ds.take 4096).length := by simp; omega
  rw [htk] at cf
  have hlen' : (ds.take 4096).length ≤ 100000000 := by simp; omega
  have e32 : pOfD ds = st (ds.take 4096) 32 0 := by unfold pOfD; rw [stand_st]
  have hDt := hide (hD.take 4096)
  have cN := hide fun w hL => rnoughtsQ_calls L S I (by omega) w hL
  have HLL := hide hL
  have HOLD := hide hL.old
  have HOE : Hid (ds.take 4096 ≠ [] → Out p S) := hide fun h => hO (fun e => h (by rw [e]; rfl))
  have HIN := hide hI
  have cn := hide fun pz cz S I (hI : I.length + 2 ^ 32 ≤ 1099511627776) W hL oz ol (h : DL W pz ((List.range 33).map pNought)) (h2 : DL W p (ds.take 4096)) => rnodeQ_calls (ds.take 4096) hlen' pz p cz cap L 32 (Nat.le_refl _) 0 (by decide) S I hI W hL oz ol h h2
  have hl := st_lengthQ (ds.take 4096) (hD.take 4096).1 32 0
  rw [e32]
  obtain ⟨D, hDD⟩ : ∃ D, st (ds.take 4096) 32 0 = D := ⟨_, rfl⟩
  rw [hDD] at cn hl
  rw [hDD]
  have hi := digInfo D hl
  have hz := zeroSize D hl
  have ho := bc_oneCell D
  rw [show ((32 : Nat) : Int) = 32 from rfl, show ((0 : Nat) : Int) = 0 from rfl] at cn
  generalize ds.take 4096 = es at *
  clear hD e32 hDD hl htk hlen' hL hO hI
  go_enter Tryd.func6, Tryd.ntmps6
  go_wp2_with fail
  have LX := (unhide HLL).below (unhide b1)
  refine (unhide cN _ LX).mono ?_
  rintro e w2 ⟨pz, cz, S2, I2, rfl, hcz, dZ, L2, B2, M2, oZ, mo2, nt2, le2⟩
  have q2 := (B2.block _ (unhide zX) (fun h => by have := unhide HOLD _ h; omega)).trans a1
  have dX := (unhide hDt).below (unhide b1) (Nat.le_refl _)
  have d2 := dX.rbut B2 (unhide HOE)
  have z2 : w.heap.size < w2.heap.size := Nat.lt_of_lt_of_le (unhide zX) B2.size
  have o2 : es ≠ [] → Out p S2 := fun h => Out.step (unhide HOE h) dX M2 h
  have N2 : Hid (¬ S2 w.heap.size) := hide fun h => by rcases M2 _ h with h | h; have := unhide HOLD _ h; omega; have := unhide zX; omega
  have HL2 := hide L2
  have HB2 := hide B2
  have HM2 := hide M2
  have Hmo2 := hide mo2
  have Hnt2 := hide nt2
  have Hle2 := hide le2
  have HO2 := hide o2
  clear a1 LX L2 B2 M2 mo2 nt2 le2 o2 dX
  go_wp2_with fail
  refine (unhide cf _).mono ?_
  rintro e w3 ⟨rfl, rfl⟩
  go_wp2_with fail
  refine (unhide cn _ _ S2 I2 (by have := unhide Hle2; have := unhide HIN; omega) _ (unhide HL2) oZ (unhide HO2) dZ d2).mono ?_
  rintro e w4 ⟨rfl, S4, I4, L4, B4, M4, mo4, nt4, le4⟩
  have q4 := (B4.block _ z2 (unhide N2)).trans q2
  have N4 : ¬ S4 w.heap.size := fun h => by rcases M4 _ h with h | h; exact unhide N2 h; omega
  have BX := hide ((unhide HB2).trans B4 (unhide HM2))
  have MX : Hid (∀ k, S4 k → S k ∨ w.heap.size ≤ k) := hide fun k h => (M4 k h).elim (fun h => (unhide HM2 k h).imp_right (fun h2 => by have := (unhide b1).size; omega)) (fun h2 => .inr (by omega))
  have HL4 := hide (L4.kept (w' := w4.setRow w.heap.size (bc D)) (fun k hk => setRow_other _ _ _ _ (fun e => N4 (by rw [← e]; exact hk))) (by rw [setRow_size]; exact Nat.le_refl _))
  have Hmo4 := hide mo4
  have Hnt4 := hide nt4
  have Hle4 := hide le4
  clear B4 M4 L4 N4 mo4 nt4 le4
  go_wp2_with (refine wpList_store_row rfl 24 (.tmp 4) (.tmp 10) rfl w.heap.size (bc D) rfl rfl 24 _ q4 hi hz ho ?_)
  refine bodyPost_ret (results_cell_row rfl _ _ w.heap.size _ _ _ _ rfl (setRow_heap _ _ _ _ _ _ q4) Tryd.underlying24 rfl hi) rfl ⟨rfl, S4, I4, unhide HL4, ?_, unhide MX, fun s h => unhide Hmo4 s (unhide Hmo2 s h), ⟨fun j hj => unhide Hmo4 _ (unhide Hnt2 j hj), unhide Hnt4⟩, by have := unhide Hle4; have := unhide Hle2; omega⟩
  have r := unhide BX
  have rb := unhide b1
  exact ⟨r.os.trans rb.os, r.tape.trans rb.tape, r.output.trans rb.output, by rw [setRow_size]; exact Nat.le_trans rb.size r.size, fun k hk hn => (setRow_other _ _ _ _ (by omega)).trans ((r.block k (Nat.lt_of_lt_of_le hk rb.size) hn).trans (rb.block k hk))⟩
set_option maxHeartbeats 2000000 in
set_option maxRecDepth 100000 in
theorem rclimbQ_calls (leaf : List UInt8) (hl : leaf.length = 32) (x : Nat) (hx : x < 4294967296) (ds : List (List UInt8)) (p : Option Addr) (cap : Nat) (hlen : ds.length ≤ 1000000000) (L : Nat) (S : Nat → Prop) (I : List (List UInt8)) (hI : I.length ≤ 1000000000000) (w : World) (hL : RLogAt w L S I) (hO : ds ≠ [] → Out p S) (hD : DL w p ds) :
    Calls Tryd.prog 8 #[.pointer (some ⟨L, 0, none⟩), .agg (bc leaf), .int .u32 (x : Int), .slice p ds.length cap] w fun e w' => e = .returned (.agg (bc (pClimb leaf x ds (min ds.length 32)))) ∧ QS L S I 32 (fun J => ∀ k, k < min ds.length 32 → cIn leaf x ds k ∈ J) w w' := by
  have A2 := hide (al2 w (.cells (bc leaf) 24) (.cells (bc (List.replicate 32 0)) 24))
  have B2 := hide (bel2 w (.cells (bc leaf) 24) (.cells (bc (List.replicate 32 0)) 24))
  have HD := hide hD
  have HLL := hide hL
  have HOLD := hide hL.old
  have HO := hide hO
  have HIN := hide hI
  have HCL := hide (pClimb_length leaf x ds hl)
  have Hm32 : Hid (min ds.length 32 ≤ 32) := hide (Nat.min_le_right _ _)
  have Hmd : Hid (min ds.length 32 ≤ ds.length) := hide (Nat.min_le_left _ _)
  have Hend : Hid ((min ds.length 32 = ds.length) ∨ (min ds.length 32 = 32 ∧ 32 < ds.length)) := hide (by omega)
  have Hx := hide hx
  have cb := hide fun k (hk : k ≤ 40) w => rbit_calls x hx k hk w
  obtain ⟨M, hM⟩ : ∃ M, min ds.length 32 = M := ⟨_, rfl⟩
  rw [hM] at Hm32 Hmd Hend
  rw [hM]
  clear hD hM hx hL hO hI
  go_enter Tryd.func8, Tryd.ntmps8
  go_wp2
  obtain ⟨N, hN⟩ : ∃ N, w.heap.size = N := ⟨_, rfl⟩
  have HN := hide hN
  go_loopw [9] (fun i wr => ∃ (k : Nat) (S' : Nat → Prop) (I' : List (List UInt8)), k ≤ M ∧ i = .int .i64 (k : Int) ∧ Hid (RLogAt wr L S' I') ∧ Hid (RBut S w wr) ∧ Hid (∀ k, S' k → S k ∨ N + 2 ≤ k) ∧ Hid (∀ s ∈ I, s ∈ I') ∧ Hid (∀ j, j < k → cIn leaf x ds j ∈ I') ∧ Hid (I'.length ≤ I.length + k) ∧ wr.heap[N + 1]? = some (.cells (bc (List.replicate 32 0)) 24 (0, 0)) ∧ wr.heap[N]? = some (.cells (bc (pClimb leaf x ds k)) 24 (0, 0))) (fun i _ => M - (intOf i).toNat)
  case atStart =>
    subst hN
    exact ⟨0, S, I, by omega, rfl, hide ((unhide HLL).below (unhide B2)), hide (RBut.of_below (unhide B2)), hide fun k h => .inl h, hide fun s h => h, hide fun j h => by omega, hide (by omega), (unhide A2).2, (unhide A2).1⟩
  case round =>
    obtain ⟨k, S1, I1, hk, rfl, HL1, HB1, hM1, hI1, hI2, hI3, q1, q2⟩ := hrel
    have N10 : Hid (¬ S1 N) := hide fun h => (unhide hM1 N h).elim (fun h => by have := unhide HOLD _ h; omega) (fun h => by omega)
    have N11 : Hid (¬ S1 (N + 1)) := hide fun h => (unhide hM1 (N + 1) h).elim (fun h => by have := unhide HOLD _ h; omega) (fun h => by omega)
    rw [hN]
    clear A2 B2
    by_cases hlt : k < M
    · have hkd : k < ds.length := by have := unhide Hmd; omega
      have hd : decide (k < ds.length) = true := by simpa using hkd
      have hd3 : decide ((k : Int) < 32) = true := by have := unhide Hm32; simp; omega
      have hDk := (unhide HD).rbut (unhide HB1) (unhide HO)
      obtain ⟨b, off, rfl, hlt2, hc⟩ := hDk.2 (by intro h; rw [h] at hkd; simp at hkd)
      have hEl := hDk.len k hkd
      have hr := hc k hkd
      have hTl := unhide HCL k
      have hiT := digInfo _ hTl
      have hT2l := unhide HCL (k + 1)
      have hi1 := digInfo _ hT2l
      have ho1 := bc_oneCell (pClimb leaf x ds (k + 1))
      have hz1 : (bc (pClimb leaf x ds k)).size = (bc (pClimb leaf x ds (k + 1))).size := by rw [bc_size, bc_size, hTl, hT2l]
      have hz : N + 1 < wr.heap.size := (Array.getElem?_eq_some_iff.1 q1).1
      have hT2e : pClimb leaf x ds (k + 1) = if x / 2 ^ k % 2 = 1 then pNode (ds.getD k []) (pClimb leaf x ds k) else pNode (pClimb leaf x ds k) (ds.getD k []) := rfl
      have hIne : cIn leaf x ds k = if x / 2 ^ k % 2 = 1 then pIn (ds.getD k []) (pClimb leaf x ds k) else pIn (pClimb leaf x ds k) (ds.getD k []) := rfl
      obtain ⟨IN, hIN⟩ : ∃ J, cIn leaf x ds k = J := ⟨_, rfl⟩
      rw [hIN] at hIne
      have HIn := hide hIN
      clear hIN
      obtain ⟨E, hE⟩ : ∃ E, ds.getD k [] = E := ⟨_, rfl⟩
      rw [hE] at hEl hr hT2e hIne
      obtain ⟨T1, hT1⟩ : ∃ T, pClimb leaf x ds k = T := ⟨_, rfl⟩
      rw [hT1] at hTl hiT hz1 q2 hT2e hIne
      obtain ⟨T2, hT2⟩ : ∃ T, pClimb leaf x ds (k + 1) = T := ⟨_, rfl⟩
      rw [hT2] at hi1 ho1 hz1 hT2e hT2l
      have cbk := unhide cb k (by have := unhide Hm32; omega) wr
      obtain ⟨B, hB⟩ : ∃ B, x / 2 ^ k % 2 = B := ⟨_, rfl⟩
      rw [hB] at hT2e cbk hIne
      have RM : Hid (∀ w', (∃ p : Regrown, w' = Sort.grow (redrawn wr p.d) p.os) → w'.rangeAt b (off + k * 32) (Lib.byteCells E)) := fun w' ⟨p, hp⟩ => by
        rw [hp]; exact rangeAt_below hr (below_regrown wr p.d p.os) hlt2
      have R2 : Hid (∀ w', (∃ p : Regrown, w' = Sort.grow (redrawn wr p.d) p.os) → w'.heap[N]? = some (.cells (bc T1) 24 (0, 0))) := fun w' ⟨p, hp⟩ => by
        rw [hp]; exact Below.at (below_regrown wr p.d p.os) (by omega) q2
      have HEl := hide hEl
      have HTl := hide hTl
      have HT2 := hide hT2
      have Q1 := hide q1
      have Q2 := hide q2
      have Hk := hide hlt
      have Hz := hide hz
      have HT2e := hide hT2e
      have HIne := hide hIne
      have CB := hide cbk
      have b1 : (0 : Int) ≤ k ∧ (k : Int) < ds.length := by omega
      clear q1 q2 hlt hz hT2 hT2e hIne hE hT1 hr hc hlt2 hkd hB hEl hTl hT2l hDk cbk
      by_cases hbit : B = 1
      · have e1 := unhide HT2e
        have ei := unhide HIne
        rw [if_pos hbit] at e1 ei
        have kN := hide fun W hL => rnode2Q_calls E T1 (unhide HEl) (unhide HTl) L S1 I1 (by have := unhide hI3; have := unhide HIN; have := unhide Hm32; have := unhide Hk; omega) W hL
        rw [← ei, ← e1] at kN
        have CB := unhide CB
        rw [decide_eq_true hbit] at CB
        have CB := hide CB
        clear e1 ei HT2e HIne hbit
        go_wp2_with fail
        refine (unhide CB).mono ?_
        rintro e w9 ⟨rfl, hw9⟩
        rw [hw9]
        clear hw9
        go_wp2_with fail
        refine wp_region_below_tail 6 mixed (by kernel_rfl) ?_
        simp only [List.take_succ_cons, List.take_zero, List.drop_succ_cons, List.drop_zero]
        quiet_step (fail)
        quiet_step (fail)
        quiet_step (fail)
        quiet_step (fail)
        refine wpQuiet_load_mid rfl 24 (.tmp 26) rfl b (off + k * 32) rfl (Lib.byteCells E) _ (unhide RM) Tryd.underlying24 rfl (by rw [Lib.byteCells_length, unhide HEl]; kernel_rfl) ?_
        refine wpQuiet_load_row rfl 24 (.tmp 5) rfl N rfl 24 _ (0, 0) _ (unhide R2) Tryd.underlying24 rfl hiT ?_
        refine wpQuiet_nil ?_
        intro w2 hb2
        have p1 := Below.at hb2 (unhide Hz) (unhide Q1)
        have p2 := Below.at hb2 (by have := unhide Hz; omega) (unhide Q2)
        have L2 := (unhide HL1).below hb2
        have B2' := hide ((unhide HB1).then_below hb2 (unhide HB1).size)
        have P1 := hide p1
        have P2 := hide p2
        have z2 : Hid (N + 1 < w2.heap.size) := hide (Array.getElem?_eq_some_iff.1 p1).1
        clear p1 p2 hb2
        go_wp2_with fail
        refine (unhide kN _ L2).mono ?_
        rintro e w4 ⟨rfl, S4, L4, B4, M4⟩
        have p4 := hide ((B4.block _ (unhide z2) (unhide N11)).trans (unhide P1))
        have q4 := hide ((B4.block _ (by have := unhide z2; omega) (unhide N10)).trans (unhide P2))
        have BB := hide ((unhide B2').trans B4 (fun k h => (unhide hM1 k h).imp_right (fun h2 => by rw [unhide HN]; omega)))
        have M5 : Hid (∀ k, S4 k → S k ∨ N + 2 ≤ k) := hide fun k h => (M4 k h).elim (unhide hM1 k) (fun h2 => .inr (by have := unhide z2; omega))
        have N4 : ¬ S4 N := fun h => (unhide M5 N h).elim (fun h => by have := unhide HOLD _ h; have := unhide HN; omega) (fun h => by omega)
        have L5 := hide (L4.kept (w' := w4.setRow N (bc T2)) (fun k hk => setRow_other _ _ _ _ (fun e => N4 (by rw [← e]; exact hk))) (by rw [setRow_size]; exact Nat.le_refl _))
        clear B4 M4 L4 N4 L2 kN
        go_wp2_with (refine wpList_store_row rfl 24 (.tmp 5) (.tmp 29) rfl N _ rfl rfl 24 _ (unhide q4) hi1 hz1 ho1 ?_)
        refine ⟨⟨k + 1, S4, rnoted IN I1, by have := unhide Hk; omega, by go_num, unhide L5, hide ?_, unhide M5, hide fun s h => mem_rnoted_old _ _ _ (unhide hI1 s h), hide ?_, hide (by have := rnoted_le IN I1; have := unhide hI3; omega), ?_, ?_⟩, by have := unhide Hk; simp [intOf]; omega⟩
        · have r := unhide BB
          exact ⟨r.os, r.tape, r.output, by rw [setRow_size]; exact r.size, fun k hk hn => (setRow_other _ _ _ _ (by rw [unhide HN] at hk; omega)).trans (r.block k hk hn)⟩
        · intro j hj
          by_cases e : j = k
          · rw [e, unhide HIn]; exact mem_rnoted _ _
          · exact mem_rnoted_old _ _ _ (unhide hI2 j (by omega))
        · rw [setRow_other _ _ _ _ (by omega)]; exact unhide p4
        · rw [unhide HT2]; exact setRow_heap _ _ _ _ _ _ (unhide q4)
      · have e1 := unhide HT2e
        have ei := unhide HIne
        rw [if_neg hbit] at e1 ei
        have kN := hide fun W hL => rnode2Q_calls T1 E (unhide HTl) (unhide HEl) L S1 I1 (by have := unhide hI3; have := unhide HIN; have := unhide Hm32; have := unhide Hk; omega) W hL
        rw [← ei, ← e1] at kN
        have CB := unhide CB
        rw [decide_eq_false hbit] at CB
        have CB := hide CB
        clear e1 ei HT2e HIne hbit
        go_wp2_with fail
        refine (unhide CB).mono ?_
        rintro e w9 ⟨rfl, hw9⟩
        rw [hw9]
        clear hw9
        go_wp2_with fail
        refine wp_region_below_tail 6 mixed (by kernel_rfl) ?_
        simp only [List.take_succ_cons, List.take_zero, List.drop_succ_cons, List.drop_zero]
        quiet_step (fail)
        refine wpQuiet_load_row rfl 24 (.tmp 5) rfl N rfl 24 _ (0, 0) _ (unhide R2) Tryd.underlying24 rfl hiT ?_
        quiet_step (fail)
        quiet_step (fail)
        quiet_step (fail)
        refine wpQuiet_load_mid rfl 24 (.tmp 34) rfl b (off + k * 32) rfl (Lib.byteCells E) _ (unhide RM) Tryd.underlying24 rfl (by rw [Lib.byteCells_length, unhide HEl]; kernel_rfl) ?_
        refine wpQuiet_nil ?_
        intro w2 hb2
        have p1 := Below.at hb2 (unhide Hz) (unhide Q1)
        have p2 := Below.at hb2 (by have := unhide Hz; omega) (unhide Q2)
        have L2 := (unhide HL1).below hb2
        have B2' := hide ((unhide HB1).then_below hb2 (unhide HB1).size)
        have P1 := hide p1
        have P2 := hide p2
        have z2 : Hid (N + 1 < w2.heap.size) := hide (Array.getElem?_eq_some_iff.1 p1).1
        clear p1 p2 hb2
        go_wp2_with fail
        refine (unhide kN _ L2).mono ?_
        rintro e w4 ⟨rfl, S4, L4, B4, M4⟩
        have p4 := hide ((B4.block _ (unhide z2) (unhide N11)).trans (unhide P1))
        have q4 := hide ((B4.block _ (by have := unhide z2; omega) (unhide N10)).trans (unhide P2))
        have BB := hide ((unhide B2').trans B4 (fun k h => (unhide hM1 k h).imp_right (fun h2 => by rw [unhide HN]; omega)))
        have M5 : Hid (∀ k, S4 k → S k ∨ N + 2 ≤ k) := hide fun k h => (M4 k h).elim (unhide hM1 k) (fun h2 => .inr (by have := unhide z2; omega))
        have N4 : ¬ S4 N := fun h => (unhide M5 N h).elim (fun h => by have := unhide HOLD _ h; have := unhide HN; omega) (fun h => by omega)
        have L5 := hide (L4.kept (w' := w4.setRow N (bc T2)) (fun k hk => setRow_other _ _ _ _ (fun e => N4 (by rw [← e]; exact hk))) (by rw [setRow_size]; exact Nat.le_refl _))
        clear B4 M4 L4 N4 L2 kN
        go_wp2_with (refine wpList_store_row rfl 24 (.tmp 5) (.tmp 36) rfl N _ rfl rfl 24 _ (unhide q4) hi1 hz1 ho1 ?_)
        refine ⟨⟨k + 1, S4, rnoted IN I1, by have := unhide Hk; omega, by go_num, unhide L5, hide ?_, unhide M5, hide fun s h => mem_rnoted_old _ _ _ (unhide hI1 s h), hide ?_, hide (by have := rnoted_le IN I1; have := unhide hI3; omega), ?_, ?_⟩, by have := unhide Hk; simp [intOf]; omega⟩
        · have r := unhide BB
          exact ⟨r.os, r.tape, r.output, by rw [setRow_size]; exact r.size, fun k hk hn => (setRow_other _ _ _ _ (by rw [unhide HN] at hk; omega)).trans (r.block k hk hn)⟩
        · intro j hj
          by_cases e : j = k
          · rw [e, unhide HIn]; exact mem_rnoted _ _
          · exact mem_rnoted_old _ _ _ (unhide hI2 j (by omega))
        · rw [setRow_other _ _ _ _ (by omega)]; exact unhide p4
        · rw [unhide HT2]; exact setRow_heap _ _ _ _ _ _ (unhide q4)
    · have hkl : k = M := by omega
      have hd : decide (k < ds.length) = false ∨ (decide (k < ds.length) = true ∧ decide ((k : Int) < 32) = false) := by
        rcases unhide Hend with h | ⟨h1, h2⟩
        · exact .inl (by simp; omega)
        · exact .inr ⟨by simp; omega, by simp; omega⟩
      have hM9 := unhide HCL k
      have hi := digInfo _ hM9
      have hz := zeroSize _ hM9
      have ho := bc_oneCell (pClimb leaf x ds k)
      have Q1 := hide q1
      have Q2 := hide q2
      have hkl' := hide hkl
      obtain ⟨T, hT⟩ : ∃ T, pClimb leaf x ds k = T := ⟨_, rfl⟩
      have HT : Hid (pClimb leaf x ds M = T) := by show _ = _; rw [← hkl]; exact hT
      rw [hT] at hi hz ho Q2
      clear q1 q2 hlt hM9 hT hkl
      rcases hd with hd | ⟨hd, hd3⟩
      all_goals
        go_wp2_with (first
          | refine wpList_load_row rfl 24 (.tmp 5) rfl N rfl 24 _ (0, 0) _ (unhide Q2) Tryd.underlying24 rfl hi ?_
          | refine wpList_store_row rfl 24 (.tmp 8) (.tmp 37) rfl (N + 1) _ rfl rfl 24 _ (unhide Q1) hi hz ho ?_)
        refine bodyPost_ret (results_cell_row rfl _ _ (N + 1) _ _ _ _ rfl (setRow_heap _ _ _ _ _ _ (unhide Q1)) Tryd.underlying24 rfl hi) rfl ⟨by rw [unhide HT], S1, I1, ?_, ?_, fun k h => (unhide hM1 k h).imp_right (fun h2 => by rw [unhide HN]; omega), unhide hI1, fun j hj => unhide hI2 j (by have := unhide hkl'; omega), by have := unhide hI3; have := unhide Hm32; omega⟩
        · exact (unhide HL1).kept (fun k hk => setRow_other _ _ _ _ (fun e => unhide N11 (by rw [← e]; exact hk))) (by rw [setRow_size]; exact Nat.le_refl _)
        · have r := unhide HB1
          exact ⟨r.os, r.tape, r.output, by rw [setRow_size]; exact r.size, fun k hk hn => (setRow_other _ _ _ _ (by rw [unhide HN] at hk; omega)).trans (r.block k hk hn)⟩
end Go.Proofs.YtljgfpdajodfcaaDoor

namespace Go.Proofs.YtljgfpdajodfcaaDoor
open Go.RowKit
set_option linter.unusedSimpArgs false
set_option linter.unusedVariables false

theorem pBig1_inj {n m : Nat} (hn : n < 256) (hm : m < 256) (h : pBig n 1 = pBig m 1) : n = m := by
  have h0 := congrArg (fun l => l.getD 0 0) h
  simp [pBig] at h0
  have h1 := congrArg UInt8.toNat h0
  rw [UInt8.toNat_ofNat', UInt8.toNat_ofNat'] at h1
  omega
theorem pBig4_inj {n m : Nat} (hn : n < 4294967296) (hm : m < 4294967296) (h : pBig n 4 = pBig m 4) : n = m := by
  have g : ∀ i, i < 4 → n / 2 ^ (8 * (3 - i)) % 256 = m / 2 ^ (8 * (3 - i)) % 256 := fun i hi => by
    have h0 := congrArg (fun l => (l.getD i 0).toNat) h
    simp [pBig, hi] at h0
    exact h0
  have a := g 0 (by omega)
  have b := g 1 (by omega)
  have c := g 2 (by omega)
  have d := g 3 (by omega)
  simp at a b c d
  omega
theorem flatText_inj : ∀ (ps qs : List (List UInt8)), (∀ p ∈ ps, p.length < 4294967296) → (∀ q ∈ qs, q.length < 4294967296) → ps.flatMap pText4 = qs.flatMap pText4 → ps = qs
  | [], [], _, _, _ => rfl
  | [], q :: qs, _, _, h => by
    have := congrArg List.length h
    rw [List.flatMap_cons, List.length_append, pText4_length, List.flatMap_nil, List.length_nil] at this
    omega
  | p :: ps, [], _, _, h => by
    have := congrArg List.length h
    rw [List.flatMap_cons, List.length_append, pText4_length, List.flatMap_nil, List.length_nil] at this
    omega
  | p :: ps, q :: qs, hp, hq, h => by
    have e : ∀ l : List UInt8, pText4 l = pBig l.length 4 ++ l := fun _ => rfl
    rw [List.flatMap_cons, List.flatMap_cons, e, e, List.append_assoc, List.append_assoc] at h
    obtain ⟨h1, h2⟩ := List.append_inj h (by rw [pBig_length, pBig_length])
    have hl := pBig4_inj (hp p (by simp)) (hq q (by simp)) h1
    obtain ⟨h3, h4⟩ := List.append_inj h2 hl
    rw [h3, flatText_inj ps qs (fun x hx => hp x (by simp [hx])) (fun x hx => hq x (by simp [hx])) h4]
theorem pInput_inj {d e : Nat} {ps qs : List (List UInt8)} (hd : d < 256) (he : e < 256) (hp : ∀ p ∈ ps, p.length < 4294967296) (hq : ∀ q ∈ qs, q.length < 4294967296) (h : pInput d ps = pInput e qs) : d = e ∧ ps = qs := by
  unfold pInput at h
  obtain ⟨h1, h2⟩ := List.append_inj h (by rw [pBig_length, pBig_length])
  exact ⟨pBig1_inj hd he h1, flatText_inj ps qs hp hq h2⟩
end Go.Proofs.YtljgfpdajodfcaaDoor

namespace Go.Proofs.YtljgfpdajodfcaaDoor
open Go Go.RowKit
set_option linter.unusedSimpArgs false
set_option linter.unusedVariables false

theorem pIn_inj {a b c d : List UInt8} (ha : a.length = 32) (hb : b.length = 32) (hc : c.length = 32) (hd : d.length = 32) (h : pIn a b = pIn c d) : a = c ∧ b = d := by
  have := (pInput_inj (by decide) (by decide) (by simp [ha, hb]) (by simp [hc, hd]) h).2
  simpa using this
theorem pNode_pIn (a b : List UInt8) : pSum [pIn a b] = pNode a b := rfl
/-- All inputs of a log are told apart by their digests. -/
theorem apart_of (J : List (List UInt8)) (h : ¬ cnt J < J.length) (s t : List UInt8) (hs : s ∈ J) (ht : t ∈ J) (he : pSum [s] = pSum [t]) : s = t := Classical.byContradiction fun hne => h (cnt_lt J s t hs ht hne he)
theorem binds_down (ds : List (List UInt8)) (hds : ∀ d ∈ ds, d.length = 32) (leaf : List UInt8) (hl : leaf.length = 32) (x : Nat) (br : List (List UInt8)) (hbr : ∀ d ∈ br, d.length = 32) (hb : br.length = 32) (J : List (List UInt8))
    (hap : ∀ s ∈ J, ∀ t ∈ J, pSum [s] = pSum [t] → s = t) (hz : ∀ j, j < 33 → pIn (pNought j) (pNought j) ∈ J) (hc : ∀ k, k < 32 → cIn leaf x br k ∈ J)
    (htop : pClimb leaf x br 32 = st ds 32 (x / 2 ^ 32)) (hno : Noted ds 32 (x / 2 ^ 32) J) : ∀ j, j ≤ 32 → pClimb leaf x br (32 - j) = st ds (32 - j) (x / 2 ^ (32 - j)) ∧ Noted ds (32 - j) (x / 2 ^ (32 - j)) J := by
  intro j
  induction j with
  | zero => intro _; exact ⟨htop, hno⟩
  | succ j ih =>
    intro hj
    obtain ⟨h1, h2⟩ := ih (by omega)
    obtain ⟨k, hk⟩ : ∃ k, 32 - (j + 1) = k := ⟨_, rfl⟩
    have hk1 : 32 - j = k + 1 := by omega
    rw [hk1] at h1 h2
    rw [hk]
    have hk32 : k < 32 := by omega
    have e : x / 2 ^ (k + 1) = x / 2 ^ k / 2 := by rw [Nat.div_div_eq_div_mul, ← Nat.pow_succ]
    obtain ⟨y, hy⟩ : ∃ y, x / 2 ^ (k + 1) = y := ⟨_, rfl⟩
    obtain ⟨z, hzz⟩ : ∃ z, x / 2 ^ k = z := ⟨_, rfl⟩
    rw [hy] at h1 h2
    rw [hy, hzz] at e
    have hl1 := st_lengthQ ds hds k (2 * y)
    have hl2 := st_lengthQ ds hds k (2 * y + 1)
    have hcl := pClimb_length leaf x br hl k
    have hel : (br.getD k []).length = 32 := by
      rw [List.getD_eq_getElem?_getD, List.getElem?_eq_getElem (by omega)]
      exact hbr _ (List.getElem_mem _)
    -- the node's input is noted, and so are those below it
    have hin : pIn (st ds k (2 * y)) (st ds k (2 * y + 1)) ∈ J ∧ Noted ds k (2 * y) J ∧ Noted ds k (2 * y + 1) J := by
      rcases h2 with h2 | h2
      · have e1 : y * 2 ^ (k + 1) = (2 * y) * 2 ^ k := by rw [Nat.pow_succ, Nat.mul_comm (2 ^ k) 2, ← Nat.mul_assoc]; congr 1; omega
        have h3 : ds.length ≤ (2 * y) * 2 ^ k := by rw [← e1]; exact h2
        have h4 : ds.length ≤ (2 * y + 1) * 2 ^ k := Nat.le_trans h3 (Nat.mul_le_mul_right _ (by omega))
        refine ⟨?_, ?_, ?_⟩
        · rw [st_behindQ ds k _ h3, st_behindQ ds k _ h4]; exact hz k (by omega)
        · cases k with
          | zero => trivial
          | succ k => exact .inl h3
        · cases k with
          | zero => trivial
          | succ k => exact .inl h4
      · exact h2
    have hd : pSum [cIn leaf x br k] = pSum [pIn (st ds k (2 * y)) (st ds k (2 * y + 1))] := by
      have c1 : pSum [cIn leaf x br k] = pClimb leaf x br (k + 1) := by
        rw [show pClimb leaf x br (k + 1) = if x / 2 ^ k % 2 = 1 then pNode (br.getD k []) (pClimb leaf x br k) else pNode (pClimb leaf x br k) (br.getD k []) from rfl]
        unfold cIn
        split <;> rfl
      rw [c1, h1]; rfl
    have heq := hap _ (hc k hk32) _ hin.1 hd
    unfold cIn at heq
    rw [hzz] at heq ⊢
    by_cases hb1 : z % 2 = 1
    · rw [if_pos hb1] at heq
      have := pIn_inj hel hcl hl1 hl2 heq
      have ez : z = 2 * y + 1 := by omega
      rw [ez]
      exact ⟨this.2, hin.2.2⟩
    · rw [if_neg hb1] at heq
      have := pIn_inj hcl hel hl1 hl2 heq
      have ez : z = 2 * y := by omega
      rw [ez]
      exact ⟨this.1, hin.2.1⟩
theorem binds_core (ds : List (List UInt8)) (hds : ∀ d ∈ ds, d.length = 32) (hlen : ds.length ≤ 4096) (leaf : List UInt8) (hl : leaf.length = 32) (x : Nat) (hx : x < 4294967296) (br : List (List UInt8)) (hbr : ∀ d ∈ br, d.length = 32) (J : List (List UInt8))
    (hp : pProves (pOfD ds) leaf x br = true) (hz : ∀ j, j < 33 → pIn (pNought j) (pNought j) ∈ J) (hno : Noted (ds.take 4096) 32 0 J) (hc : ∀ k, k < min br.length 32 → cIn leaf x br k ∈ J)
    (hne : leaf ≠ if x < ds.length then ds.getD x [] else List.replicate 32 0) : cnt J < J.length := by
  refine Classical.byContradiction fun h => hne ?_
  have htk : ds.take 4096 = ds := List.take_of_length_le hlen
  simp only [pProves, Bool.and_eq_true, decide_eq_true_eq] at hp
  obtain ⟨hb, hp⟩ := hp
  rw [htk] at hno
  have e0 : x / 2 ^ 32 = 0 := Nat.div_eq_of_lt (by simpa using hx)
  have htop : pClimb leaf x br 32 = st ds 32 (x / 2 ^ 32) := by
    rw [hp, e0]
    unfold pOfD
    rw [htk, stand_st]
  have := (binds_down ds hds leaf hl x br hbr hb J (fun s hs t ht => apart_of J h s t hs ht) hz (fun k hk => hc k (by rw [hb]; exact hk)) htop (by rw [e0]; exact hno) 32 (by omega)).1
  simp only [Nat.sub_self, Nat.pow_zero, Nat.div_one] at this
  rw [show leaf = pClimb leaf x br 0 from rfl, this]
  show pStand ds x (pNought 0) = _
  rfl
end Go.Proofs.YtljgfpdajodfcaaDoor

namespace Go.Proofs.YtljgfpdajodfcaaDoor
open Go Go.RowKit
set_option linter.unusedSimpArgs false
set_option linter.unusedVariables false

def dig1 : List UInt8 := 1 :: List.replicate 31 0
def dig2 : List UInt8 := 2 :: List.replicate 31 0
theorem two_DL (w : World) : DL (w.alloc (.cells (bc (dig1 ++ dig2)) 24)) (some ⟨w.heap.size, 0, none⟩) [dig1, dig2] := by
  have h := DL_of_flat (w := w.alloc (.cells (bc (dig1 ++ dig2)) 24)) (t := 24) (fun i => if i = 0 then dig1 else dig2) (fun j => by split <;> rfl) 2 (al1 w _)
  exact h
set_option maxHeartbeats 1000000 in
set_option maxRecDepth 100000 in
theorem mawake_core (NN RR : List UInt8) (BR : List (List UInt8))
    (hN : ∀ (w : World), Tabs w → Calls Tryd.prog 12 #[.pointer none, .int .i64 32] w fun e w' => e = .returned (.agg (bc NN)) ∧ Below w.heap.size w w')
    (hO : ∀ (w : World), Tabs w → Calls Tryd.prog 11 #[.pointer none, .slice none 0 0] w fun e w' => e = .returned (.agg (bc NN)) ∧ Below w.heap.size w w')
    (e32 : ∀ w, (binOp .eql 24 (.agg (bc NN)) (.agg (bc NN))).run Tryd.prog w = .ok (.bool true) w)
    (hB : ∀ (w : World), DL (w.alloc (.cells (bc (dig1 ++ dig2)) 24)) (some ⟨w.heap.size, 0, none⟩) [dig1, dig2] → Tabs (w.alloc (.cells (bc (dig1 ++ dig2)) 24)) →
      Calls Tryd.prog 10 #[.pointer none, .slice (some ⟨w.heap.size, 0, none⟩) 2 2, .int .i64 1] (w.alloc (.cells (bc (dig1 ++ dig2)) 24)) fun e w' => (∃ g c, e = .returned (.tuple #[.slice (some ⟨g, 0, none⟩) 32 c, .int .i64 0]) ∧ 32 ≤ c ∧ (w.alloc (.cells (bc (dig1 ++ dig2)) 24)).heap.size ≤ g ∧ DL w' (some ⟨g, 0, none⟩) BR) ∧ Below (w.alloc (.cells (bc (dig1 ++ dig2)) 24)).heap.size (w.alloc (.cells (bc (dig1 ++ dig2)) 24)) w')
    (hOD : ∀ (w : World), DL (w.alloc (.cells (bc (dig1 ++ dig2)) 24)) (some ⟨w.heap.size, 0, none⟩) [dig1, dig2] → Tabs (w.alloc (.cells (bc (dig1 ++ dig2)) 24)) →
      Calls Tryd.prog 11 #[.pointer none, .slice (some ⟨w.heap.size, 0, none⟩) 2 2] (w.alloc (.cells (bc (dig1 ++ dig2)) 24)) fun e w' => e = .returned (.agg (bc RR)) ∧ Below (w.alloc (.cells (bc (dig1 ++ dig2)) 24)).heap.size (w.alloc (.cells (bc (dig1 ++ dig2)) 24)) w')
    (hP : ∀ p c (w : World), DL w p BR → Tabs w → Calls Tryd.prog 7 #[.pointer none, .agg (bc RR), .agg (bc dig2), .int .u32 1, .slice p 32 c] w fun e w' => e = .returned (.bool true) ∧ Below w.heap.size w w')
    (w : World) (tabs : Tabs w) : Calls Tryd.prog 4 #[] w fun e w' => e = .returned (.bool true) ∧ Below w.heap.size w w' := by
  have HT := hide tabs
  have HN := hide hN
  have HO := hide hO
  have HB := hide hB
  have HOD := hide hOD
  have HP := hide hP
  clear tabs hN hO hB hOD hP
  go_enter Tryd.func4, Tryd.ntmps4
  go_wp2_with fail
  change Calls _ _ #[.pointer none, .slice (some ⟨w.heap.size, 0, none⟩) 2 2, .int .i64 1] (w.alloc (.cells (bc (dig1 ++ dig2)) 24)) _
  have b0 : Below w.heap.size w (w.alloc (.cells (bc (dig1 ++ dig2)) 24)) := (Below.refl _ _).alloc (Nat.le_refl _) _
  refine (unhide HB w (two_DL w) ((unhide HT).below b0 (Nat.le_refl _))).mono ?_
  rintro e w1 ⟨⟨g, c, rfl, hc, hg, hdl⟩, hb1⟩
  have b1 : Below w.heap.size w w1 := b0.trans (hb1.mono (by simp))
  have t1 := (unhide HT).below b1 (Nat.le_refl _)
  have HDL := hide hdl
  have HB1 := hide b1
  have T1 := hide t1
  clear hdl b1 t1 hb1 b0 hc hg
  go_wp2_with fail
  refine (unhide HO _ (unhide T1)).mono ?_
  rintro e w2 ⟨rfl, hb2⟩
  have T2 := hide ((unhide T1).below hb2 (Nat.le_refl _))
  have D2 := hide ((unhide HDL).below hb2 (Nat.le_refl _))
  have B2 := hide ((unhide HB1).trans (hb2.mono (unhide HB1).size))
  clear hb2 HDL HB1 T1
  go_wp2_with fail
  refine (unhide HN _ (unhide T2)).mono ?_
  rintro e w3 ⟨rfl, hb3⟩
  have T3 := hide ((unhide T2).below hb3 (Nat.le_refl _))
  have D3 := hide ((unhide D2).below hb3 (Nat.le_refl _))
  have B3 := hide ((unhide B2).trans (hb3.mono (unhide B2).size))
  clear hb3 T2 D2 B2
  go_wp2_with fail
  change Calls _ _ #[.pointer none, .slice (some ⟨w3.heap.size, 0, none⟩) 2 2] (w3.alloc (.cells (bc (dig1 ++ dig2)) 24)) _
  have b3 : Below w3.heap.size w3 (w3.alloc (.cells (bc (dig1 ++ dig2)) 24)) := (Below.refl _ _).alloc (Nat.le_refl _) _
  refine (unhide HOD w3 (two_DL w3) ((unhide T3).below b3 (Nat.le_refl _))).mono ?_
  rintro e w4 ⟨rfl, hb4⟩
  have b4 : Below w3.heap.size w3 w4 := b3.trans (hb4.mono (by simp))
  have T4 := hide ((unhide T3).below b4 (Nat.le_refl _))
  have D4 := hide ((unhide D3).below b4 (Nat.le_refl _))
  have B4 := hide ((unhide B3).trans (b4.mono (unhide B3).size))
  clear hb4 b3 b4 T3 D3 B3
  go_wp2_with fail
  change Calls _ _ #[.pointer none, .agg (bc RR), .agg (bc dig2), .int .u32 1, .slice (some ⟨g, 0, none⟩) 32 c] _ _
  refine (unhide HP _ _ _ (unhide D4) (unhide T4)).mono ?_
  rintro e w5 ⟨rfl, hb5⟩
  have B5 := hide ((unhide B4).trans (hb5.mono (unhide B4).size))
  clear hb5
  go_wp2
  go_ret
  exact ⟨rfl, unhide B5⟩
theorem dig_refl (N : List UInt8) (h : N.length = 32) (w : World) : (binOp .eql 24 (.agg (bc N)) (.agg (bc N))).run Tryd.prog w = .ok (.bool true) w := by
  have := dig_eq N N h h w
  rw [decide_eq_true rfl] at this
  exact this
theorem proves_true (root leaf : List UInt8) (BR : List (List UInt8)) (hr : root.length = 32) (hl : leaf.length = 32) (x : Nat) (hx : x < 4294967296) (h : pProves root leaf x BR = true) (hB : BR.length = 32) (p : Option Addr) (c : Nat) (w : World) (hD : DL w p BR) (tabs : Tabs w) :
    Calls Tryd.prog 7 #[.pointer none, .agg (bc root), .agg (bc leaf), .int .u32 (x : Int), .slice p 32 c] w fun e w' => e = .returned (.bool true) ∧ Below w.heap.size w w' := by
  have := proves_calls root leaf hr hl x hx BR p c (by omega) w hD tabs
  rw [h, hB] at this
  exact this
theorem nought32 (N : List UInt8) (hN : pNought 32 = N) (w : World) (tabs : Tabs w) : Calls Tryd.prog 12 #[.pointer none, .int .i64 32] w fun e w' => e = .returned (.agg (bc N)) ∧ Below w.heap.size w w' := by
  have := nought_calls 32 w tabs
  rw [if_neg (by decide), show (32 : Int).toNat = 32 from rfl, hN] at this
  exact this
theorem of_none (N : List UInt8) (hN : pOfD [] = N) (w : World) (tabs : Tabs w) : Calls Tryd.prog 11 #[.pointer none, .slice none 0 0] w fun e w' => e = .returned (.agg (bc N)) ∧ Below w.heap.size w w' := by
  have := of_calls [] none 0 (by simp) (by simp) w ⟨fun d hd => by simp at hd, fun h => absurd rfl h⟩ tabs
  rw [hN] at this
  exact this
theorem dig12 : ∀ d ∈ [dig1, dig2], d.length = 32 := by intro d hd; simp at hd; rcases hd with rfl | rfl <;> rfl
theorem mawake_calls (w : World) (tabs : Tabs w) : Calls Tryd.prog 4 #[] w fun e w' => e = .returned (.bool true) ∧ Below w.heap.size w w' := by
  obtain ⟨NN, hNN⟩ : ∃ N, pNought 32 = N := ⟨_, rfl⟩
  obtain ⟨RR, hRR⟩ : ∃ N, pOfD [dig1, dig2] = N := ⟨_, rfl⟩
  obtain ⟨BR, hBR⟩ : ∃ N, pBranch [dig1, dig2] 1 = N := ⟨_, rfl⟩
  have hNl : NN.length = 32 := by rw [← hNN]; exact pNought_length 32
  have hRl : RR.length = 32 := by rw [← hRR]; exact pStand_length (pLev_32 _ dig12 32) 0 _ (pNought_length 32)
  have hBl : BR.length = 32 := by rw [← hBR]; exact pBranch_length _ _
  have hpr := branch_proves [dig1, dig2] (by simp) 1 (by simp)
  rw [hRR, hBR, show [dig1, dig2].getD 1 [] = dig2 from rfl] at hpr
  refine mawake_core NN RR BR (nought32 NN hNN) (of_none NN (of_nil.trans hNN)) (dig_refl NN hNl) ?_ ?_ (proves_true RR dig2 BR hRl rfl 1 (by decide) hpr hBl) w tabs
  · intro w hD tb
    have := branch_calls [dig1, dig2] (some ⟨w.heap.size, 0, none⟩) 2 1 (by simp) (by simp) (w.alloc (.cells (bc (dig1 ++ dig2)) 24)) hD tb
    rw [hBR] at this
    exact this
  · intro w hD tb
    have := of_calls [dig1, dig2] (some ⟨w.heap.size, 0, none⟩) 2 (by simp) (by simp) (w.alloc (.cells (bc (dig1 ++ dig2)) 24)) hD tb
    rw [hRR] at this
    exact this
end Go.Proofs.YtljgfpdajodfcaaDoor

namespace Go.Proofs.YtljgfpdajodfcaaDoor
open Go Go.RowKit

theorem wpList_load_row_gd {P : Program} {ops : Array Oper} {rest : List Oper} {o : Oper} {a : Act} {w : World} {Q : Exit → Act → World → Prop} (hw : Region.wanted o (yielded ops a.tmps) = true) (ty : TypeId) (x : Operand) (ho : o.op = .load ty x)
    (g : Nat) (hx : a.eval x = .pointer (some ⟨g, 0, none⟩)) (t : TypeId) (cs : Array Value) (fr : Nat × Nat) (d : TypeDesc) (hg : w.heap[g]? = some (.cells cs t fr))
    (hu : P.underlying ty = some d) (hd : (match d with | .struct _ | .array _ _ => true | _ => false) = true) (hi : (P.info? ty).map (·.size) = some cs.size)
    (h : wpList P ops Q rest (a.put o.dst (.agg cs)) w) : wpList P ops Q (o :: rest) a w :=
  wpList_step fun K hK => by
    rw [if_pos hw]
    exact wp_load_row ty x ho g hx t cs fr d hg hu hd hi (hK _ _ h)
end Go.Proofs.YtljgfpdajodfcaaDoor
