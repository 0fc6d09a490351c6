/-
  WHAT merkle's Of RETURNS: the root of leaves.
-/
import Derived.Test.YtcmfahibdkflaaaDoorMerkD
namespace Go.Proofs.YtcmfahibdkflaaaDoor
open Go Go.RowKit
set_option linter.unusedSimpArgs false
set_option linter.unusedVariables false

/-- The digests of a level, but for the noughts behind them. -/
def pLev (ds : List (List UInt8)) : Nat → List (List UInt8)
  | 0 => ds
  | k + 1 => pAbove (pLev ds k) (pNought k)
theorem pLev_len (ds : List (List UInt8)) : ∀ k, (pLev ds k).length ≤ ds.length
  | 0 => Nat.le_refl _
  | k + 1 => by
    have := pLev_len ds k
    show (pAbove _ _).length ≤ _
    rw [pAbove_length]
    by_cases h : (pLev ds k).length = 0
    · rw [h]; omega
    · omega
theorem pLev_32 (ds : List (List UInt8)) (h : ∀ d ∈ ds, d.length = 32) : ∀ k, ∀ d ∈ pLev ds k, d.length = 32
  | 0 => h
  | k + 1 => fun d hd => by
    obtain ⟨j, _, rfl⟩ := List.mem_map.1 hd
    exact aboveAt_length _ _ _
def pOfD (ds : List (List UInt8)) : List UInt8 := pStand (pLev (ds.take 4096) 32) 0 (pNought 32)
theorem DL.take {w : World} {p : Option Addr} {ds : List (List UInt8)} (h : DL w p ds) (n : Nat) : DL w p (ds.take n) := by
  refine ⟨fun d hd => h.1 d (List.mem_of_mem_take hd), fun hn => ?_⟩
  obtain ⟨b, off, rfl, hlt, hc⟩ := h.2 (by intro e; rw [e] at hn; simp at hn)
  refine ⟨b, off, rfl, hlt, fun i hi => ?_⟩
  have hi' : i < ds.length := by simp at hi; omega
  have hin : i < n := by simp at hi; omega
  have := hc i hi'
  simpa [List.getD, hi', hin] using this
set_option maxHeartbeats 4000000 in
set_option maxRecDepth 100000 in
theorem of_calls (ds : List (List UInt8)) (p : Option Addr) (cap : Nat) (hcap : ds.length ≤ cap) (hlen : ds.length ≤ 100000000) (w : World) (hD : DL w p ds) (tabs : Tabs w) :
    Calls Tryd.prog 16 #[.pointer none, .slice p ds.length cap] w fun e w' => e = .returned (.agg (bc (pOfD ds))) ∧ Below w.heap.size w w' := by
  have cf := fun w => first_calls p ds.length cap hcap (by omega) w
  have htk : min ds.length 4096 = (ds.take 4096).length := by simp; omega
  rw [htk] at cf
  have hlen' : (ds.take 4096).length ≤ 4096 := by simp; omega
  have hD' := hD.take 4096
  have hO : pOfD ds = pStand (pLev (ds.take 4096) 32) 0 (pNought 32) := rfl
  generalize ds.take 4096 = es at *
  obtain ⟨R, hR⟩ : ∃ R, pOfD ds = R := ⟨_, rfl⟩
  rw [hR] at hO
  have hRl : R.length = 32 := by rw [hO]; exact pStand_length (pLev_32 es hD'.1 32) 0 _ (pNought_length 32)
  rw [hR]
  have A2 := hide (al2 w (.cells (bc (List.replicate 32 0)) 24) (.cells (bc (pNought 0)) 24))
  have B2 := hide (bel2 w (.cells (bc (List.replicate 32 0)) 24) (.cells (bc (pNought 0)) 24))
  have HI := hide (fun k => digInfo (pNought k) (pNought_length k))
  have HO := hide (fun k => bc_oneCell (pNought k))
  have hiR := digInfo R hRl
  have hzR := zeroSize R hRl
  have hoR := bc_oneCell R
  have HD := hide hD'
  have HT := hide tabs
  have HRe := hide hO
  have Hlen := hide hlen'
  have CF := hide cf
  clear hD hD' tabs hO hlen hcap cf hlen' hR hRl htk
  go_enter Tryd.func16, Tryd.ntmps16
  go_wp2_with fail
  refine (unhide CF _).mono ?_
  rintro e w1 ⟨rfl, hw1⟩
  subst hw1
  go_wp2
  obtain ⟨N, hN⟩ : ∃ N, w.heap.size = N := ⟨_, rfl⟩
  have HN := hide hN
  go_loopw [5, 9] (fun v i wr => ∃ k : Nat, k ≤ 32 ∧ i = .int .i64 (k : Int) ∧ Below N w wr ∧ wr.heap[N]? = some (.cells (bc (List.replicate 32 0)) 24 (0, 0)) ∧ wr.heap[N + 1]? = some (.cells (bc (pNought k)) 24 (0, 0)) ∧ ∃ q c, v = .slice q (pLev es k).length c ∧ (pLev es k).length ≤ 100000000 ∧ DL wr q (pLev es k) ∧ Far2 N q (pLev es k)) (fun _ i _ => 32 - (intOf i).toNat)
  case atStart =>
    subst hN
    exact ⟨0, by omega, rfl, unhide B2, (unhide A2).1, (unhide A2).2, p, cap, rfl, by have := unhide Hlen; show es.length ≤ _; omega, (unhide HD).below (unhide B2) (Nat.le_refl _), far2_of (unhide HD) (Nat.le_refl _)⟩
  case round =>
    obtain ⟨k, hk, rfl, hb, q0, q1, q, c, rfl, hll, hdl, hfar⟩ := hrel
    rw [hN]
    clear A2 B2
    by_cases hlt : k < 32
    · have hd : decide ((k : Int) < 32) = true := by simp; omega
      have hi := unhide HI k
      have hi1 := unhide HI (k + 1)
      have ho1 := unhide HO (k + 1)
      have hz1 : (bc (pNought k)).size = (bc (pNought (k + 1))).size := by rw [bc_size, bc_size, pNought_length, pNought_length]
      have tb := (unhide HT).below hb (by rw [← hN]; exact Nat.le_refl _)
      have hz : N + 1 < wr.heap.size := (Array.getElem?_eq_some_iff.1 q1).1
      have CA := hide (above_calls (pLev es k) q c (pNought k) (pNought_length k) hll wr hdl tb)
      have TB := hide tb
      have Q0 := hide q0
      have Q1 := hide q1
      have HB := hide hb
      have Hk := hide hlt
      have Hz := hide hz
      clear q0 q1 hb hlt hz tb hdl
      go_wp2_with (refine wpList_load_row rfl 24 (.tmp 6) rfl (N + 1) rfl 24 _ (0, 0) _ (unhide Q1) Tryd.underlying24 rfl hi ?_)
      refine (unhide CA).mono ?_
      rintro e w2 ⟨⟨g2, c2, rfl, hc2, hg2, hdl2⟩, hb2⟩
      have Hg2 : Hid (N + 1 < g2) := hide (by have := unhide Hz; omega)
      have p0 := Below.at hb2 (by have := unhide Hz; omega) (unhide Q0)
      have p1 := Below.at hb2 (unhide Hz) (unhide Q1)
      have bb : Below N w w2 := (unhide HB).trans (hb2.mono (by have := unhide Hz; omega))
      have tb2 := (unhide TB).below hb2 (Nat.le_refl _)
      have CN := hide (node_calls (pNought k) (pNought k) (pNought_length k) (pNought_length k) w2 tb2)
      have hz2 : N + 1 < w2.heap.size := by have := unhide Hz; have := hb2.size; omega
      have Hz2 := hide hz2
      have HDL := hide hdl2
      have P0 := hide p0
      have P1 := hide p1
      have BB := hide bb
      clear p0 p1 bb hb2 tb2 hdl2 hc2 hz2 CA hg2
      go_wp2_with (refine wpList_load_row rfl 24 (.tmp 6) rfl (N + 1) rfl 24 _ (0, 0) _ (unhide P1) Tryd.underlying24 rfl hi ?_)
      refine (unhide CN).mono ?_
      rintro e w3 ⟨rfl, hb3⟩
      have p0 := Below.at hb3 (by have := unhide Hz2; omega) (unhide P0)
      have p1 := Below.at hb3 (unhide Hz2) (unhide P1)
      have bb : Below N w w3 := (unhide BB).trans (hb3.mono (by have := unhide Hz2; omega))
      have hdl3 := (unhide HDL).below hb3 (Nat.le_refl _)
      have R0 := hide p0
      have R1 := hide p1
      have B3 := hide bb
      have HDL3 := hide hdl3
      have hz3 : Hid (N + 1 < w3.heap.size) := hide (by have := unhide Hz2; have := hb3.size; omega)
      clear p0 p1 bb hb3 hdl3 CN
      go_wp2_with (refine wpList_store_row rfl 24 (.tmp 6) (.tmp 18) rfl (N + 1) _ rfl rfl 24 _ (unhide R1) hi1 hz1 ho1 ?_)
      refine ⟨⟨k + 1, by have := unhide Hk; omega, by go_num, below_setRow (unhide B3) (by omega) _, ?_, ?_, some ⟨g2, 0, none⟩, c2, rfl, ?_, ?_, ?_⟩, by have := unhide Hk; simp [intOf]; omega⟩
      · rw [setRow_other _ _ _ _ (by omega)]; exact unhide R0
      · exact setRow_heap _ _ _ _ _ _ (unhide R1)
      · have := pLev_len es (k + 1); have := unhide Hlen; omega
      · exact (unhide HDL3).other (size_setRow _ _ _) (fun _ b off e => setRow_other _ _ _ _ (by simp at e; have := unhide Hg2; omega))
      · intro _ b off e
        simp at e
        have := unhide Hg2
        omega
    · have hd : decide ((k : Int) < 32) = false := by simp; omega
      have hkl : k = 32 := by omega
      subst hkl
      have hi := unhide HI 32
      have tb := (unhide HT).below hb (by rw [← hN]; exact Nat.le_refl _)
      have hz : N + 1 < wr.heap.size := (Array.getElem?_eq_some_iff.1 q1).1
      have cs := standing_calls (pLev es 32) q c 0 (pNought 32) (pNought_length 32) (by omega) wr hdl
      rw [← unhide HRe] at cs
      have CS := hide cs
      have Q0 := hide q0
      have Q1 := hide q1
      have HB := hide hb
      have Hz := hide hz
      generalize pNought 32 = NN at *
      generalize pLev es 32 = LL at *
      clear q0 q1 hb hlt hz tb hdl cs hfar
      rw [show ((32 : Nat) : Int) = 32 from rfl]
      go_wp2_with (refine wpList_load_row rfl 24 (.tmp 6) rfl (N + 1) rfl 24 _ (0, 0) _ (unhide Q1) Tryd.underlying24 rfl hi ?_)
      refine (unhide CS).mono ?_
      rintro e w2 ⟨rfl, hb2⟩
      have p0 := Below.at hb2 (by have := unhide Hz; omega) (unhide Q0)
      have bb : Below N w w2 := (unhide HB).trans (hb2.mono (by have := unhide Hz; omega))
      have P0 := hide p0
      have BB := hide bb
      clear p0 bb hb2
      go_wp2_with (refine wpList_store_row rfl 24 (.tmp 4) (.tmp 22) rfl N _ rfl rfl 24 _ (unhide P0) hiR hzR hoR ?_)
      exact bodyPost_ret (results_cell_row rfl _ _ N _ _ _ _ rfl (setRow_heap _ _ _ _ _ _ (unhide P0)) Tryd.underlying24 rfl hiR) rfl ⟨rfl, by rw [unhide HN]; exact below_setRow (unhide BB) (Nat.le_refl _) _⟩
end Go.Proofs.YtcmfahibdkflaaaDoor
