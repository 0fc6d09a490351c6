/-
  WHAT merkle's Keep RETTryd.underlying27NS.
-/
import Derived.Test.YtcmfahibdkflaaaDoorTreeP
import Derived.Test.YtcmfahibdkflaaaDoorStoreNew
namespace Go.Proofs.YtcmfahibdkflaaaDoor
open Go Go.RowKit
set_option linter.unusedSimpArgs false
set_option linter.unusedVariables false

set_option maxHeartbeats 4000000 in
set_option maxRecDepth 100000 in
theorem keep_calls (ds : List (List UInt8)) (p : Option Addr) (cap : Nat) (hcap : ds.length ≤ cap) (hlen : ds.length ≤ 100000000) (w : World) (hD : DL w p ds) (tabs : Tabs w) :
    Calls Tryd.prog 18 #[.pointer none, .slice p ds.length cap] w fun e w' => (∃ L, KeptBy (ds.take 4096) L ∧ e = .returned (.agg (tr (ds.take 4096).length L))) ∧ Below w.heap.size w w' := by
  have cf := fun w => first_calls p ds.length cap hcap (by omega) w
  have htk : min ds.length 4096 = (ds.take 4096).length := by simp; omega
  rw [htk] at cf
  have hlen' : (ds.take 4096).length ≤ 4096 := by simp; omega
  have hD' := hD.take 4096
  generalize ds.take 4096 = es at *
  have A2 := al2 w (.cells (tr 0 (List.replicate 1024 0)) 27) (.cells (tr 0 (List.replicate 1024 0)) 27)
  have B2 := bel2 w (.cells (tr 0 (List.replicate 1024 0)) 27) (.cells (tr 0 (List.replicate 1024 0)) 27)
  rw [← zeroTree] at A2 B2
  obtain ⟨X, hX⟩ : ∃ X, (w.alloc (.cells Tryd.zeroCells27 27)).alloc (.cells Tryd.zeroCells27 27) = X := ⟨_, rfl⟩
  rw [hX, zeroTree] at A2
  rw [hX] at B2
  have AX := hide A2
  have BX := hide B2
  have HD := hide hD'
  have HT := hide tabs
  have Hlen := hide hlen'
  have CF := hide cf
  clear hD hD' tabs hlen hcap cf hlen' htk A2 B2
  go_enter Tryd.func18, Tryd.ntmps18
  go_wp2_with (rw [hX])
  refine (unhide CF _).mono ?_
  rintro e w1 ⟨rfl, hw1⟩
  subst hw1
  go_wp2
  obtain ⟨N, hN⟩ : ∃ N, w.heap.size = N := ⟨_, rfl⟩
  have HN := hide hN
  clear hX
  go_loopw [11] (fun i wr => ∃ k : Nat, k ≤ es.length ∧ i = .int .i64 (k : Int) ∧ Below N w wr ∧ wr.heap[N]? = some (.cells (tr 0 (List.replicate 1024 0)) 27 (0, 0)) ∧ ∃ L, KeptBy (es.take k) L ∧ wr.heap[N + 1]? = some (.cells (tr k L) 27 (0, 0))) (fun i _ => es.length - (intOf i).toNat)
  case atStart =>
    subst hN
    exact ⟨0, by omega, rfl, unhide BX, (unhide AX).1, _, by rw [List.take_zero]; exact .nil, (unhide AX).2⟩
  case round =>
    obtain ⟨k, hk, rfl, hb, q0, L, hkept, q1⟩ := hrel
    rw [hN]
    clear AX BX
    by_cases hlt : k < es.length
    · have hd : decide (k < es.length) = true := by simpa using hlt
      have hD0 := unhide HD
      obtain ⟨b, off, rfl, hlt2, hc⟩ := hD0.2 (by intro h; rw [h] at hlt; simp at hlt)
      have hr := rangeAt_below (hc _ hlt) hb (by rw [← hN]; exact hlt2)
      have hEl := hD0.len _ hlt
      have htake : es.take (k + 1) = es.take k ++ [es.getD k []] := by rw [List.take_add_one]; simp [List.getD, hlt]
      have htl : (es.take k).length = k := by simp; omega
      obtain ⟨E, hE⟩ : ∃ E, es.getD k [] = E := ⟨_, rfl⟩
      rw [hE] at hr hEl htake
      have hz : N + 1 < wr.heap.size := (Array.getElem?_eq_some_iff.1 q1).1
      have hiT := treeInfo k L hkept.kept.len
      have hiE := digInfo E hEl
      have hzE := zeroSize E hEl
      have CI := hide (fun W tb => insert_calls k (by have := unhide Hlen; omega) L E hkept.kept.len hEl W tb)
      have HK := hide hkept
      have HTk := hide htake
      have HTl := hide htl
      have HEl := hide hEl
      have HR := hide hr
      have Q0 := hide q0
      have Q1 := hide q1
      have HB := hide hb
      have Hk := hide hlt
      have Hz := hide hz
      have b1 : (0 : Int) ≤ k ∧ (k : Int) < es.length := by omega
      have b3 : k ≤ 4096 := by have := unhide Hlen; omega
      clear q0 q1 hb hlt hz hr hEl htake htl hE hc hlt2 hD0 hkept hk
      go_wp2_with (first
        | refine wpList_load_mid rfl 24 (.tmp 13) rfl b (off + k * 32) rfl (Lib.byteCells E) _ (unhide HR) Tryd.underlying24 rfl (by rw [Lib.byteCells_length, unhide HEl]; kernel_rfl) ?_
        | (refine wpList_store_new rfl 24 (.tmp 7) (.tmp 14) rfl wr _ _ E rfl rfl hiE hzE ?_
           intro W2 q2 hb2 z2
           have S2 := hide q2
           have S1 := hide (Below.at hb2 (unhide Hz) (unhide Q1))
           have S0 := hide (Below.at hb2 (by have := unhide Hz; omega) (unhide Q0))
           have BW := hide ((unhide HB).trans (hb2.mono (by have := unhide Hz; omega)))
           have ZW := hide z2
           clear q2 hb2 z2)
        | refine wpList_load_row rfl 27 (.tmp 5) rfl (N + 1) rfl 27 _ (0, 0) _ (unhide S1) Tryd.underlying27 rfl hiT ?_
        | refine wpList_load_row rfl 24 (.tmp 7) rfl wr.heap.size rfl 24 _ (0, 0) _ (unhide S2) Tryd.underlying24 rfl hiE ?_)
      refine (unhide CI _ ((unhide HT).below (unhide BW) (by rw [unhide HN]; exact Nat.le_refl _))).mono ?_
      rintro e w3 ⟨⟨l, hlow, hl12, rfl⟩, hb3⟩
      have p0 := hide (Below.at hb3 (by have := unhide Hz; have := unhide ZW; omega) (unhide S0))
      have p1 := hide (Below.at hb3 (by have := unhide Hz; have := unhide ZW; omega) (unhide S1))
      have BB := hide ((unhide BW).trans (hb3.mono (by have := unhide Hz; have := unhide ZW; omega)))
      have hK2 : KeptBy (es.take (k + 1)) (putAt L (l * 32) (pPart L E l)) := by
        rw [unhide HTk]
        exact .snoc _ _ _ _ (unhide HK) (unhide HEl) (by rw [unhide HTl]; exact hlow) hl12
      obtain ⟨L2, hL2⟩ : ∃ L2, putAt L (l * 32) (pPart L E l) = L2 := ⟨_, rfl⟩
      rw [hL2] at hK2 ⊢
      have hi2 := treeInfo (k + 1) L2 hK2.kept.len
      have ho2 := tr_one (k + 1) L2
      have hz2 : (tr k L).size = (tr (k + 1) L2).size := by rw [tr_size, tr_size, hK2.kept.len, (unhide HK).kept.len]
      have HK2 := hide hK2
      clear hK2 hL2 hlow hl12 hb3
      go_wp2_with (refine wpList_store_row rfl 27 (.tmp 5) (.tmp 20) rfl (N + 1) _ rfl rfl 27 _ (unhide p1) hi2 hz2 ho2 ?_)
      refine ⟨⟨k + 1, by have := unhide Hk; omega, by go_num, below_setRow (unhide BB) (by omega) _, ?_, L2, unhide HK2, setRow_heap _ _ _ _ _ _ (unhide p1)⟩, by have := unhide Hk; simp [intOf]; omega⟩
      rw [setRow_other _ _ _ _ (by omega)]; exact unhide p0
    · have hd : decide (k < es.length) = false := by simpa using hlt
      have hkl : k = es.length := by omega
      rw [hkl] at q1 hkept
      rw [List.take_length] at hkept
      have hiT := treeInfo es.length L hkept.kept.len
      have hoT := tr_one es.length L
      have hzT : (tr 0 (List.replicate 1024 0)).size = (tr es.length L).size := by rw [tr_size, tr_size, hkept.kept.len]; rfl
      have HK := hide hkept
      have Q0 := hide q0
      have Q1 := hide q1
      have HB := hide hb
      clear q0 q1 hb hkl hlt hkept
      go_wp2_with (first
        | refine wpList_load_row rfl 27 (.tmp 5) rfl (N + 1) rfl 27 _ (0, 0) _ (unhide Q1) Tryd.underlying27 rfl hiT ?_
        | refine wpList_store_row rfl 27 (.tmp 4) (.tmp 23) rfl N _ rfl rfl 27 _ (unhide Q0) hiT hzT hoT ?_)
      exact bodyPost_ret (results_cell_row rfl _ _ N _ _ _ _ rfl (setRow_heap _ _ _ _ _ _ (unhide Q0)) Tryd.underlying27 rfl hiT) rfl ⟨⟨L, unhide HK, rfl⟩, by rw [unhide HN]; exact below_setRow (unhide HB) (Nat.le_refl _) _⟩
end Go.Proofs.YtcmfahibdkflaaaDoor
