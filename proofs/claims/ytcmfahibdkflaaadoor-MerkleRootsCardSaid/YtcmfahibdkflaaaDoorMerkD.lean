/-
  WHAT merkle's above RETURNS: the nodes of each two neighbours.
-/
import Derived.Test.YtcmfahibdkflaaaDoorMerkC
import Derived.Test.YtcmfahibdkflaaaDoorMakeDig
namespace Go.Proofs.YtcmfahibdkflaaaDoor
open Go Go.RowKit
set_option linter.unusedSimpArgs false
set_option linter.unusedVariables false

def aboveAt (ds : List (List UInt8)) (z : List UInt8) (i : Nat) : List UInt8 := pNode (ds.getD (2 * i) []) (pStand ds (2 * i + 1) z)
def pAbove (ds : List (List UInt8)) (z : List UInt8) : List (List UInt8) := (List.range ((ds.length + 1) / 2)).map (aboveAt ds z)
theorem aboveAt_length (ds : List (List UInt8)) (z : List UInt8) (i : Nat) : (aboveAt ds z i).length = 32 := pNode_length _ _
theorem pAbove_length (ds : List (List UInt8)) (z : List UInt8) : (pAbove ds z).length = (ds.length + 1) / 2 := by simp [pAbove]
theorem pAbove_at (ds : List (List UInt8)) (z : List UInt8) (i : Nat) (h : i < (ds.length + 1) / 2) : (pAbove ds z).getD i [] = aboveAt ds z i := by simp [pAbove, h]
theorem flat_len32 (f : Nat → List UInt8) (hf : ∀ j, (f j).length = 32) (k : Nat) : ((List.range k).flatMap f).length = 32 * k := by
  induction k with
  | zero => rfl
  | succ k ih => rw [List.range_succ, List.flatMap_append, List.length_append, ih]; simp [hf]; omega
theorem flat_at32 (f : Nat → List UInt8) (hf : ∀ j, (f j).length = 32) : ∀ k i, i < k → (((List.range k).flatMap f).drop (i * 32)).take 32 = f i
  | 0, i, h => by omega
  | k + 1, i, h => by
    rw [List.range_succ, List.flatMap_append]
    have hl := flat_len32 f hf k
    by_cases hik : i < k
    · rw [List.drop_append_of_le_length (by omega), List.take_append_of_le_length (by rw [List.length_drop]; omega)]
      exact flat_at32 f hf k i hik
    · obtain rfl : i = k := by omega
      rw [List.drop_append, List.drop_of_length_le (by omega), hl, show i * 32 - 32 * i = 0 by omega]
      simp [hf]
      exact List.take_of_length_le (by rw [hf]; exact Nat.le_refl _)
theorem DL.other {w w' : World} {p : Option Addr} {ds : List (List UInt8)} (h : DL w p ds) (hs : w'.heap.size = w.heap.size) (hk : ds ≠ [] → ∀ b off, p = some ⟨b, off, none⟩ → w'.heap[b]? = w.heap[b]?) : DL w' p ds := by
  refine ⟨h.1, fun hn => ?_⟩
  obtain ⟨b, off, rfl, hlt, hc⟩ := h.2 hn
  refine ⟨b, off, rfl, by omega, fun i hi j v hv => ?_⟩
  rw [← hc i hi j v hv]
  exact World.cell?_of_block (w := w) (hk hn b off rfl)
/-- The list lies in no block from N to N + 1. -/
def Far2 (N : Nat) (p : Option Addr) (ds : List (List UInt8)) : Prop := ds ≠ [] → ∀ b off, p = some ⟨b, off, none⟩ → b < N ∨ N + 1 < b
theorem far2_of {w : World} {p : Option Addr} {ds : List (List UInt8)} (h : DL w p ds) {N : Nat} (hN : w.heap.size ≤ N) : Far2 N p ds := fun hn b off e => by
  obtain ⟨b', off', e', hlt, _⟩ := h.2 hn
  rw [e'] at e
  simp at e
  omega
/-- A block of digests, as a list of them. -/
theorem DL_of_flat {w : World} {g : Nat} {t : TypeId} (f : Nat → List UInt8) (hf : ∀ j, (f j).length = 32) (m : Nat) (hg : w.heap[g]? = some (.cells (bc ((List.range m).flatMap f)) t (0, 0))) : DL w (some ⟨g, 0, none⟩) ((List.range m).map f) := by
  refine ⟨fun d hd => ?_, fun hn => ⟨g, 0, rfl, (Array.getElem?_eq_some_iff.1 hg).1, fun i hi => ?_⟩⟩
  · obtain ⟨j, _, rfl⟩ := List.mem_map.1 hd; exact hf j
  · have hi' : i < m := by simpa using hi
    have := bc_range w g (0 + i * 32) 32 _ t hg
    rw [Nat.zero_add] at this ⊢
    rw [flat_at32 f hf m i hi'] at this
    simpa [hi'] using this
set_option maxHeartbeats 4000000 in
set_option maxRecDepth 100000 in
theorem above_calls (ds : List (List UInt8)) (p : Option Addr) (cap : Nat) (z : List UInt8) (hz : z.length = 32) (hlen : ds.length ≤ 100000000) (w : World) (hD : DL w p ds) (tabs : Tabs w) :
    Calls Tryd.prog 34 #[.pointer none, .slice p ds.length cap, .agg (bc z)] w fun e w' => (∃ g c, e = .returned (.slice (some ⟨g, 0, none⟩) (pAbove ds z).length c) ∧ (pAbove ds z).length ≤ c ∧ w.heap.size ≤ g ∧ DL w' (some ⟨g, 0, none⟩) (pAbove ds z)) ∧ Below w.heap.size w w' := by
  obtain ⟨m, hm⟩ : ∃ m, (ds.length + 1) / 2 = m := ⟨_, rfl⟩
  have hmi : ((ds.length : Int) + 1) / 2 = (m : Int) := by omega
  have hmt : ((ds.length : Int) + 1).tdiv 2 = (m : Int) := by rw [Int.tdiv_eq_ediv_of_nonneg (by omega)]; exact hmi
  have mk := make_digests m (by omega)
  have A2 := hide (al2 w (.cells (bc z) 24) (.cells (bc (List.replicate (32 * m) 0)) 24))
  have B2 := hide (bel2 w (.cells (bc z) 24) (.cells (bc (List.replicate (32 * m) 0)) 24))
  have hiz := digInfo z hz
  have HD := hide hD
  have HT := hide tabs
  have Hz := hide hz
  have Hm := hide hm
  have Hlen := hide hlen
  rw [pAbove_length, hm]
  clear hD tabs hz hm
  obtain ⟨F, hF⟩ : ∃ F, aboveAt ds z = F := ⟨_, rfl⟩
  have HFl : Hid (∀ j, (F j).length = 32) := hide (by rw [← hF]; exact aboveAt_length ds z)
  have HF := hide hF
  have hpa : Hid (pAbove ds z = (List.range m).map F) := hide (by unfold pAbove; rw [unhide Hm, hF])
  rw [unhide hpa]
  clear hF
  go_enter Tryd.func34, Tryd.ntmps34
  go_wp2
  obtain ⟨N, hN⟩ : ∃ N, w.heap.size = N := ⟨_, rfl⟩
  have HN := hide hN
  go_loopw [16] (fun i wr => ∃ k : Nat, k ≤ m ∧ i = .int .i64 (k : Int) ∧ Below N w wr ∧ wr.heap[N]? = some (.cells (bc z) 24 (0, 0)) ∧ wr.heap[N + 1]? = some (.cells (bc ((List.range k).flatMap F ++ List.replicate (32 * (m - k)) 0)) 24 (0, 0))) (fun i _ => m - (intOf i).toNat)
  case atStart =>
    subst hN
    refine ⟨0, by omega, rfl, unhide B2, (unhide A2).1, ?_⟩
    simpa using (unhide A2).2
  case round =>
    obtain ⟨k, hk, rfl, hb, q0, q1⟩ := hrel
    rw [hN]
    clear A2 B2 mk hmi hmt
    by_cases hlt : k < m
    · have hd : decide (k < m) = true := by simpa using hlt
      have hmm := unhide Hm
      have hj : 2 * k < ds.length := by omega
      have hDk := (unhide HD).below hb (by rw [← hN]; exact Nat.le_refl _)
      have hD0 := unhide HD
      obtain ⟨b, off, rfl, hlt2, hc⟩ := hD0.2 (by intro h; rw [h] at hj; simp at hj)
      have hr := rangeAt_below (hc _ hj) hb (by rw [← hN]; exact hlt2)
      have hEl := hD0.len _ hj
      have tb := (unhide HT).below hb (by rw [← hN]; exact Nat.le_refl _)
      have hz1 : N + 1 < wr.heap.size := (Array.getElem?_eq_some_iff.1 q1).1
      have hFk : F k = pNode (ds.getD (2 * k) []) (pStand ds (2 * k + 1) z) := by rw [← unhide HF]; rfl
      have hSl := pStand_length hD0.1 (2 * k + 1) z (unhide Hz)
      obtain ⟨j, hjj⟩ : ∃ j, 2 * k = j := ⟨_, rfl⟩
      have ej : (2 : Int) * (k : Int) = (j : Int) := by omega
      rw [hjj] at hr hEl hFk hSl
      have kS : Hid (∀ dd os, Calls Tryd.prog 35 #[.slice (some ⟨b, off, none⟩) ds.length cap, .int .i64 ((j : Int) + 1), .agg (bc z)] (Sort.grow (redrawn wr dd) os) fun e w'' => e = .returned (.agg (bc (pStand ds (j + 1) z))) ∧ ∃ p : Regrown, w'' = Sort.grow (redrawn wr p.d) p.os) := fun dd os => by
        have := standing_calls ds (some ⟨b, off, none⟩) cap (j + 1) z (unhide Hz) (by have := unhide Hlen; omega) (Sort.grow (redrawn wr dd) os) (hDk.below (below_regrown wr dd os) (Nat.le_refl _))
        rw [show ((j + 1 : Nat) : Int) = (j : Int) + 1 by omega] at this
        exact Calls.regrown_of this
      obtain ⟨S, hS⟩ : ∃ S, pStand ds (j + 1) z = S := ⟨_, rfl⟩
      obtain ⟨E, hE⟩ : ∃ E, ds.getD j [] = E := ⟨_, rfl⟩
      rw [hS] at kS hSl hFk
      rw [hE] at hr hEl hFk
      have kN : Hid (∀ dd os, Calls Tryd.prog 29 #[.pointer none, .agg (bc E), .agg (bc S)] (Sort.grow (redrawn wr dd) os) fun e w'' => e = .returned (.agg (bc (F k))) ∧ ∃ p : Regrown, w'' = Sort.grow (redrawn wr p.d) p.os) := fun dd os => by
        rw [hFk]; exact Calls.regrown_of (node_calls E S hEl hSl _ (tb.below (below_regrown wr dd os) (Nat.le_refl _)))
      have RM : Hid (∀ w', (∃ p : Regrown, w' = Sort.grow (redrawn wr p.d) p.os) → w'.rangeAt b (off + j * 32) (Lib.byteCells E)) := fun w' ⟨p, hp⟩ => by
        rw [hp]; exact rangeAt_below hr (below_regrown wr p.d p.os) (by have := hb.size; omega)
      have R0 : Hid (∀ w', (∃ p : Regrown, w' = Sort.grow (redrawn wr p.d) p.os) → w'.heap[N]? = some (.cells (bc z) 24 (0, 0))) := fun w' ⟨p, hp⟩ => by
        rw [hp]; exact Below.at (below_regrown wr p.d p.os) (by omega) q0
      have hput : Hid (putAt ((List.range k).flatMap F ++ List.replicate (32 * (m - k)) 0) (k * 32) (F k) = (List.range (k + 1)).flatMap F ++ List.replicate (32 * (m - (k + 1))) 0) := by
        rw [putAt_zeros _ _ _ _ (by rw [flat_len32 F (unhide HFl)]; omega) (by rw [unhide HFl]; omega), unhide HFl, List.range_succ, List.flatMap_append]
        rw [show 32 * (m - k) - 32 = 32 * (m - (k + 1)) by omega]
        exact hide (by simp)
      have hll : Hid (k * 32 + (F k).length ≤ ((List.range k).flatMap F ++ List.replicate (32 * (m - k)) 0).length) := hide (by rw [List.length_append, flat_len32 F (unhide HFl), List.length_replicate, unhide HFl]; omega)
      have hiF := digInfo (F k) (unhide HFl k)
      have HEl := hide hEl
      have Q0 := hide q0
      have Q1 := hide q1
      have HB := hide hb
      have Hk := hide hlt
      have Hz1 := hide hz1
      have b1 : (0 : Int) ≤ j ∧ (j : Int) < ds.length := by omega
      have b2 : (0 : Int) ≤ k ∧ (k : Int) < m := by omega
      have wj : IntKind.i64.wrap (j : Int) = (j : Int) := wi64 _ (by omega) (by have := unhide Hlen; omega)
      have wj1 : IntKind.i64.wrap ((j : Int) + 1) = (j : Int) + 1 := wi64 _ (by omega) (by have := unhide Hlen; omega)
      generalize F k = FK at *
      clear q0 q1 hb hlt hz1 tb hFk hS hE hr hc hlt2 hD0 hDk hEl hSl hjj hj hmm
      go_wp2_with fail
      refine wp_region_below_tail 16 mixed (by kernel_rfl) ?_
      simp only [List.take_succ_cons, List.take_zero, List.drop_succ_cons, List.drop_zero]
      quiet_step (fail)
      quiet_step (fail)
      quiet_step (fail)
      quiet_step (fail)
      quiet_step (fail)
      quiet_step (fail)
      quiet_step (fail)
      refine wpQuiet_load_mid rfl 24 (.tmp 25) rfl b (off + j * 32) rfl (Lib.byteCells E) _ (unhide RM) Tryd.underlying24 rfl (by rw [Lib.byteCells_length, unhide HEl]; kernel_rfl) ?_
      quiet_step (fail)
      quiet_step (fail)
      quiet_step (fail)
      quiet_step (fail)
      refine wpQuiet_load_row rfl 24 (.tmp 5) rfl N rfl 24 _ (0, 0) _ (unhide R0) Tryd.underlying24 rfl hiz ?_
      quiet_step (exact unhide kS _ _)
      quiet_step (exact unhide kN _ _)
      quiet_step (fail)
      refine wpQuiet_nil ?_
      intro w2 hb2
      have p0 := Below.at hb2 (by have := unhide Hz1; omega) (unhide Q0)
      have p1 := Below.at hb2 (unhide Hz1) (unhide Q1)
      have bb : Below N w w2 := (unhide HB).trans (hb2.mono (by have := unhide Hz1; omega))
      have P0 := hide p0
      have P1 := hide p1
      have BB := hide bb
      clear p0 p1 bb hb2
      refine wpList_store_at rfl 24 (.tmp 34) (.tmp 33) rfl (N + 1) (k * 32) _ FK 24 (by first | rfl | (simp; done)) rfl (unhide P1) (unhide hll) hiF ?_
      intro w3 r1 r2 r3 r4
      rw [unhide hput] at r1
      have P3 := hide r1
      have P4 := hide ((r2 N (by omega)).trans (unhide P0))
      have B3 := hide ((unhide BB).trans (r4 N (by omega)))
      clear r1 r2 r3 r4
      go_wp2
      exact ⟨⟨k + 1, by have := unhide Hk; omega, by go_num, unhide B3, unhide P4, unhide P3⟩, by have := unhide Hk; simp [intOf]; omega⟩
    · have hd : decide (k < m) = false := by simpa using hlt
      have hkl : k = m := by omega
      rw [hkl, Nat.sub_self, Nat.mul_zero, List.replicate_zero, List.append_nil] at q1
      have Q1 := hide q1
      have HB := hide hb
      clear q0 q1 hb hkl hlt
      go_wp2
      go_ret
      refine ⟨⟨N + 1, m, rfl, Nat.le_refl _, by rw [unhide HN]; omega, DL_of_flat F (unhide HFl) m (unhide Q1)⟩, by rw [unhide HN]; exact unhide HB⟩
end Go.Proofs.YtcmfahibdkflaaaDoor
