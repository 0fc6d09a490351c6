/-
  WHAT merkle's Branch RETURNS: the neighbours on a leaf's way.
-/
import Derived.Test.YtcmfahibdkflaaaDoorMerkE
namespace Go.Proofs.YtcmfahibdkflaaaDoor
open Go Go.RowKit
set_option linter.unusedSimpArgs false
set_option linter.unusedVariables false

theorem xor_one (M : Nat) (h : M < 9223372036854775808) : bits .xor .i64 (M : Int) 1 = ((M ^^^ 1 : Nat) : Int) := by
  have h63 : M ^^^ 1 < 2 ^ 63 := Nat.xor_lt_two_pow (by omega) (by omega)
  have h1 : (BitVec.ofInt 64 (M : Int)).toNat = M := by
    rw [BitVec.ofInt_natCast, BitVec.toNat_ofNat]; exact Nat.mod_eq_of_lt (by omega)
  have h2 : (BitVec.ofInt 64 (1 : Int)).toNat = 1 := by decide
  show IntKind.i64.wrap ((BitVec.ofInt 64 (M : Int) ^^^ BitVec.ofInt 64 (1 : Int)).toNat : Int) = _
  rw [BitVec.toNat_xor, h1, h2, IntKind.wrap_i64]
  omega
/-- The neighbours, level by level. -/
def sideAt (ds : List (List UInt8)) (x : Nat) (i : Nat) : List UInt8 := pStand (pLev ds i) ((x / 2 ^ i) ^^^ 1) (pNought i)
def pBranch (ds : List (List UInt8)) (x : Nat) : List (List UInt8) := (List.range 32).map (sideAt ds x)
theorem sideAt_length {ds : List (List UInt8)} (h : ∀ d ∈ ds, d.length = 32) (x i : Nat) : (sideAt ds x i).length = 32 := pStand_length (pLev_32 ds h i) _ _ (pNought_length i)
theorem pBranch_length (ds : List (List UInt8)) (x : Nat) : (pBranch ds x).length = 32 := by simp [pBranch]
set_option maxHeartbeats 400000 in
theorem branch_arg (ds : List (List UInt8)) (p : Option Addr) (cap : Nat) (x : Int) (hx : x < 0 ∨ (ds.length : Int) ≤ x) (w : World) :
    Calls Tryd.prog 20 #[.pointer none, .slice p ds.length cap, .int .i64 x] w fun e w' => e = .returned (.tuple #[.slice none 0 0, .int .i64 2]) ∧ w' = w := by
  have d : (decide (x < 0) = true) ∨ (decide (x < 0) = false ∧ decide ((ds.length : Int) ≤ x) = true) := by
    by_cases h : x < 0
    · exact .inl (by simpa using h)
    · exact .inr ⟨by simpa using h, by simp; omega⟩
  clear hx
  go_enter Tryd.func20, Tryd.ntmps20
  rcases d with d | ⟨d1, d2⟩
  all_goals
    go_wp2
    go_ret2
    exact ⟨rfl, rfl⟩
set_option maxHeartbeats 4000000 in
set_option maxRecDepth 100000 in
theorem branch_calls (ds : List (List UInt8)) (p : Option Addr) (cap : Nat) (x : Nat) (hx : x < ds.length) (hlen : ds.length ≤ 4096) (w : World) (hD : DL w p ds) (tabs : Tabs w) :
    Calls Tryd.prog 20 #[.pointer none, .slice p ds.length cap, .int .i64 (x : Int)] w fun e w' => (∃ g c, e = .returned (.tuple #[.slice (some ⟨g, 0, none⟩) 32 c, .int .i64 0]) ∧ 32 ≤ c ∧ w.heap.size ≤ g ∧ DL w' (some ⟨g, 0, none⟩) (pBranch ds x)) ∧ Below w.heap.size w w' := by
  have d1 : decide ((x : Int) < 0) = false := by simp
  have d2 : decide (ds.length ≤ x) = false := by simp; omega
  have d3 : decide ((4096 : Int) < (ds.length : Int)) = false := by simp; omega
  have mk : ∀ w, (Instr.makeSlice 39 (.int .i64 32) (.int .i64 32)).run Tryd.prog w = .ok (.slice (some ⟨w.heap.size, 0, none⟩) 32 32) (w.alloc (.cells (bc (List.replicate (32 * 32) 0)) 24)) := fun w => make_digests 32 (by decide) w
  have A2 := hide (al2 w (.cells (bc (List.replicate (32 * 32) 0)) 24) (.cells (bc (pNought 0)) 24))
  have B2 := hide (bel2 w (.cells (bc (List.replicate (32 * 32) 0)) 24) (.cells (bc (pNought 0)) 24))
  have HI := hide (fun k => digInfo (pNought k) (pNought_length k))
  have HO := hide (fun k => bc_oneCell (pNought k))
  obtain ⟨F, hF⟩ : ∃ F, sideAt ds x = F := ⟨_, rfl⟩
  have HFl : Hid (∀ j, (F j).length = 32) := hide (by rw [← hF]; exact sideAt_length hD.1 x)
  have HF := hide hF
  have hpb : pBranch ds x = (List.range 32).map F := by unfold pBranch; rw [hF]
  rw [hpb]
  have HD := hide hD
  have HT := hide tabs
  have Hlen := hide hlen
  have Hx := hide hx
  clear hD tabs hlen hx hF hpb
  go_enter Tryd.func20, Tryd.ntmps20
  go_wp2
  obtain ⟨N, hN⟩ : ∃ N, w.heap.size = N := ⟨_, rfl⟩
  have HN := hide hN
  go_loopw [9, 27] (fun v i wr => ∃ k : Nat, k ≤ 32 ∧ i = .int .i64 (k : Int) ∧ Below N w wr ∧ wr.heap[N]? = some (.cells (bc ((List.range k).flatMap F ++ List.replicate (32 * (32 - k)) 0)) 24 (0, 0)) ∧ wr.heap[N + 1]? = some (.cells (bc (pNought k)) 24 (0, 0)) ∧ ∃ q c, v = .slice q (pLev ds k).length c ∧ (pLev ds k).length ≤ 100000000 ∧ DL wr q (pLev ds k) ∧ Far2 N q (pLev ds k)) (fun _ i _ => 32 - (intOf i).toNat)
  case atStart =>
    subst hN
    exact ⟨0, by omega, rfl, unhide B2, (unhide A2).1, (unhide A2).2, p, cap, rfl, by have := unhide Hlen; show ds.length ≤ _; omega, (unhide HD).below (unhide B2) (Nat.le_refl _), far2_of (unhide HD) (Nat.le_refl _)⟩
  case round =>
    obtain ⟨k, hk, rfl, hb, q0, q1, q, c, rfl, hll, hdl, hfar⟩ := hrel
    rw [hN]
    clear A2 B2 mk
    by_cases hlt : k < 32
    · have hd : decide ((k : Int) < 32) = true := by simp; omega
      have hi := unhide HI k
      have hi1 := unhide HI (k + 1)
      have ho1 := unhide HO (k + 1)
      have hz1 : (bc (pNought k)).size = (bc (pNought (k + 1))).size := by rw [bc_size, bc_size, pNought_length, pNought_length]
      have tb := (unhide HT).below hb (by rw [← hN]; exact Nat.le_refl _)
      have hz : N + 1 < wr.heap.size := (Array.getElem?_eq_some_iff.1 q1).1
      have hFk : F k = pStand (pLev ds k) ((x / 2 ^ k) ^^^ 1) (pNought k) := by rw [← unhide HF]; rfl
      obtain ⟨B, hB⟩ : ∃ B, x / 2 ^ k = B := ⟨_, rfl⟩
      have hBl : B < 9223372036854775808 := by rw [← hB]; exact Nat.lt_of_le_of_lt (Nat.div_le_self _ _) (by have := unhide Hx; have := unhide Hlen; omega)
      have fB : (x : Int) / 2 ^ k = (B : Int) := by rw [← hB]; push_cast; rfl
      have fX := xor_one B hBl
      rw [hB] at hFk
      obtain ⟨Y, hY⟩ : ∃ Y, B ^^^ 1 = Y := ⟨_, rfl⟩
      rw [hY] at fX hFk
      have kS : Hid (∀ dd os, Calls Tryd.prog 35 #[.slice q (pLev ds k).length c, .int .i64 (Y : Int), .agg (bc (pNought k))] (Sort.grow (redrawn wr dd) os) fun e w'' => e = .returned (.agg (bc (F k))) ∧ ∃ p : Regrown, w'' = Sort.grow (redrawn wr p.d) p.os) := fun dd os => by
        rw [hFk]
        exact Calls.regrown_of (standing_calls (pLev ds k) q c Y (pNought k) (pNought_length k) (by omega) _ (hdl.below (below_regrown wr dd os) (Nat.le_refl _)))
      have R1 : Hid (∀ w', (∃ p : Regrown, w' = Sort.grow (redrawn wr p.d) p.os) → w'.heap[N + 1]? = some (.cells (bc (pNought k)) 24 (0, 0))) := fun w' ⟨p, hp⟩ => by
        rw [hp]; exact Below.at (below_regrown wr p.d p.os) hz q1
      have hput : Hid (putAt ((List.range k).flatMap F ++ List.replicate (32 * (32 - k)) 0) (k * 32) (F k) = (List.range (k + 1)).flatMap F ++ List.replicate (32 * (32 - (k + 1))) 0) := by
        rw [putAt_zeros _ _ _ _ (by rw [flat_len32 F (unhide HFl)]; omega) (by rw [unhide HFl]; omega), unhide HFl, List.range_succ, List.flatMap_append]
        rw [show 32 * (32 - k) - 32 = 32 * (32 - (k + 1)) by omega]
        exact hide (by simp)
      have hll2 : Hid (k * 32 + (F k).length ≤ ((List.range k).flatMap F ++ List.replicate (32 * (32 - k)) 0).length) := hide (by rw [List.length_append, flat_len32 F (unhide HFl), List.length_replicate, unhide HFl]; omega)
      have hiF := digInfo (F k) (unhide HFl k)
      have CA := hide (fun w2 h1 h2 => above_calls (pLev ds k) q c (pNought k) (pNought_length k) hll w2 h1 h2)
      have CN := hide (fun w2 h2 => node_calls (pNought k) (pNought k) (pNought_length k) (pNought_length k) w2 h2)
      have TB := hide tb
      have HDL := hide hdl
      have HFar := hide hfar
      have Q0 := hide q0
      have Q1 := hide q1
      have HB := hide hb
      have Hk := hide hlt
      have Hz := hide hz
      have b2 : (0 : Int) ≤ k ∧ (k : Int) < 32 := by omega
      generalize F k = FK at *
      clear q0 q1 hb hlt hz tb hdl hfar hFk hY hB hBl
      go_wp2_with fail
      refine wp_region_below_tail 10 mixed (by kernel_rfl) ?_
      simp only [List.take_succ_cons, List.take_zero, List.drop_succ_cons, List.drop_zero]
      quiet_step (fail)
      quiet_step (fail)
      quiet_step (fail)
      quiet_step (fail)
      quiet_step (fail)
      quiet_step (fail)
      quiet_step (fail)
      refine wpQuiet_load_row rfl 24 (.tmp 10) rfl (N + 1) rfl 24 _ (0, 0) _ (unhide R1) Tryd.underlying24 rfl hi ?_
      quiet_step (exact unhide kS _ _)
      quiet_step (fail)
      refine wpQuiet_nil ?_
      intro w2 hb2
      have p0 := Below.at hb2 (by have := unhide Hz; omega) (unhide Q0)
      have p1 := Below.at hb2 (unhide Hz) (unhide Q1)
      have bb : Below N w w2 := (unhide HB).trans (hb2.mono (by have := unhide Hz; omega))
      have dd2 := (unhide HDL).below hb2 (Nat.le_refl _)
      have zz2 : N + 1 < w2.heap.size := by have := unhide Hz; have := hb2.size; omega
      have P0 := hide p0
      have P1 := hide p1
      have BB := hide bb
      have D2 := hide dd2
      have Z2 := hide zz2
      clear p0 p1 bb hb2 dd2 zz2 R1 kS
      refine wpList_store_at rfl 24 (.tmp 39) (.tmp 38) rfl N (k * 32) _ FK 24 (by first | rfl | (simp; done)) rfl (unhide P0) (unhide hll2) hiF ?_
      intro w3 r1 r2 r3 r4
      rw [unhide hput] at r1
      have S0 := hide r1
      have S1 := hide ((r2 (N + 1) (by omega)).trans (unhide P1))
      have B3 := hide ((unhide BB).trans (r4 N (Nat.le_refl _)))
      have hdl3 := (unhide D2).other r3 (fun hne b off e => r2 b (by have := unhide HFar hne b off e; omega))
      have D3 := hide hdl3
      have tb3 := (unhide HT).below (unhide B3) (by rw [unhide HN]; exact Nat.le_refl _)
      have T3 := hide tb3
      have Z3 : Hid (N + 1 < w3.heap.size) := hide (by have := unhide Z2; omega)
      clear r1 r2 r3 r4 hdl3 tb3
      go_wp2_with (refine wpList_load_row rfl 24 (.tmp 10) rfl (N + 1) rfl 24 _ (0, 0) _ (unhide S1) Tryd.underlying24 rfl hi ?_)
      refine (unhide CA _ (unhide D3) (unhide T3)).mono ?_
      rintro e w4 ⟨⟨g4, c4, rfl, hc4, hg4, hdl4⟩, hb4⟩
      have p0 := Below.at hb4 (by have := unhide Z3; omega) (unhide S0)
      have p1 := Below.at hb4 (unhide Z3) (unhide S1)
      have bb : Below N w w4 := (unhide B3).trans (hb4.mono (by have := unhide Z3; omega))
      have tb4 := (unhide T3).below hb4 (Nat.le_refl _)
      have Hg4 : Hid (N + 1 < g4) := hide (by have := unhide Z3; omega)
      have V0 := hide p0
      have V1 := hide p1
      have B4 := hide bb
      have T4 := hide tb4
      have D4 := hide hdl4
      have Z4 : Hid (N + 1 < w4.heap.size) := hide (by have := unhide Z3; have := hb4.size; omega)
      clear p0 p1 bb tb4 hdl4 hc4 hg4 hb4
      go_wp2_with (refine wpList_load_row rfl 24 (.tmp 10) rfl (N + 1) rfl 24 _ (0, 0) _ (unhide V1) Tryd.underlying24 rfl hi ?_)
      refine (unhide CN _ (unhide T4)).mono ?_
      rintro e w5 ⟨rfl, hb5⟩
      have p0 := Below.at hb5 (by have := unhide Z4; omega) (unhide V0)
      have p1 := Below.at hb5 (unhide Z4) (unhide V1)
      have bb : Below N w w5 := (unhide B4).trans (hb5.mono (by have := unhide Z4; omega))
      have hdl5 := (unhide D4).below hb5 (Nat.le_refl _)
      have X0 := hide p0
      have X1 := hide p1
      have B5 := hide bb
      have D5 := hide hdl5
      clear p0 p1 bb hdl5 hb5
      go_wp2_with (refine wpList_store_row rfl 24 (.tmp 10) (.tmp 47) rfl (N + 1) _ rfl rfl 24 _ (unhide X1) hi1 hz1 ho1 ?_)
      refine ⟨⟨k + 1, by have := unhide Hk; omega, by go_num, below_setRow (unhide B5) (by omega) _, ?_, ?_, some ⟨g4, 0, none⟩, c4, rfl, ?_, ?_, ?_⟩, by have := unhide Hk; simp [intOf]; omega⟩
      · rw [setRow_other _ _ _ _ (by omega)]; exact unhide X0
      · exact setRow_heap _ _ _ _ _ _ (unhide X1)
      · have := pLev_len ds (k + 1); have := unhide Hlen; omega
      · exact (unhide D5).other (size_setRow _ _ _) (fun _ b off e => setRow_other _ _ _ _ (by simp at e; have := unhide Hg4; omega))
      · intro _ b off e
        simp at e
        have := unhide Hg4
        omega
    · have hd : decide ((k : Int) < 32) = false := by simp; omega
      have hkl : k = 32 := by omega
      rw [hkl, Nat.sub_self, Nat.mul_zero, List.replicate_zero, List.append_nil] at q0
      have Q0 := hide q0
      have HB := hide hb
      clear q0 q1 hb hkl hlt hdl hfar
      go_wp2
      go_ret2
      exact ⟨⟨N, 32, rfl, Nat.le_refl _, by rw [unhide HN]; exact Nat.le_refl _, DL_of_flat F (unhide HFl) 32 (unhide Q0)⟩, by rw [unhide HN]; exact unhide HB⟩
end Go.Proofs.YtcmfahibdkflaaaDoor
