/-
  WHAT THE REFERENCE'S Sum RETURNS.
-/
import Derived.Test.YtfobcchiakjhgaaDoorRefEnd
import Derived.Test.YtfobcchiakjhgaaDoorShaSum
namespace Go.Proofs.YtfobcchiakjhgaaDoor
open Go.RowKit
set_option linter.unusedSimpArgs false
set_option linter.unusedVariables false

theorem pSum_one (l : List UInt8) : pEnd ⟨(pThrough pBegin.s l).1, (pThrough pBegin.s l).2, BitVec.ofNat 64 l.length⟩ = pSum [l] := by
  show _ = pEnd (pAdd pBegin l)
  simp only [pAdd, pBegin, List.nil_append, add64]
  rw [show (0 : BitVec 64) + BitVec.ofNat 64 l.length = BitVec.ofNat 64 l.length from BitVec.zero_add _]

set_option maxHeartbeats 2000000 in
set_option maxRecDepth 100000 in
theorem rsum_calls (l : List UInt8) (hl : l.length ≤ 70368744177664) (w : World) :
    Calls Tryd.prog 18 #[.string (str l)] w fun e w' => e = .returned (.agg (bc (pSum [l]))) ∧ Below w.heap.size w w' := by
  have hres := pSum_one l
  generalize hR : pSum [l] = res at *
  have hreslen : res.length = 32 := by rw [← hR]; exact pSum_length _
  have Hres := hide hres
  have Hrl := hide hreslen
  have hcv := conv_run l
  have ex : IntKind.u64.wrap (l.length : Int) = ((BitVec.ofNat 64 l.length).toNat : Int) := by rw [IntKind.wrap_u64]; simp
  generalize hcount : BitVec.ofNat 64 l.length = cnt at *
  have q0 := al1 w (.cells (bc (List.replicate 32 0)) 30)
  have hb0 := (Below.refl w.heap.size w).alloc (Nat.le_refl _) (.cells (bc (List.replicate 32 0)) 30)
  have Q0 := hide q0
  have HB0 := hide hb0
  clear hres hreslen hR q0 hb0 hcount
  go_enter Tryd.func18, Tryd.ntmps18
  go_wp2_with fail
  refine (first_calls _).mono ?_
  rintro en w1 ⟨rfl, hb1⟩
  have q1 := Below.at hb1 (by simp) (unhide Q0)
  have hbw1 := (unhide HB0).trans (hb1.mono (by simp))
  have hz1 : w.heap.size < w1.heap.size := by have := hb1.size; simp at this; omega
  clear hb1 Q0 HB0
  go_wp2_with fail
  refine (after_calls pBegin.s l w1.heap.size 0 (bcap w1 l) (bcap_ge _ _) (bcap_le _ _ (by unfold maxLen; omega)) (bworld w1 l) (by rw [bworld_size]; omega) (bworld_bytes _ _)).mono ?_
  rintro en w2 ⟨off2, cap2, rfl, hc2, _, hby2, hb2⟩
  have hbb := bworld_below l (Below.refl w1.heap.size w1) (Nat.le_refl _)
  have hbs := bworld_size w1 l
  have hb12 : Below w1.heap.size w1 w2 := hbb.trans (hb2.mono (by omega))
  have q2 := Below.at hb12 hz1 q1
  have hbw2 := hbw1.trans (hb12.mono hbw1.size)
  have hz2 : w1.heap.size < w2.heap.size := by have := hb2.size; omega
  clear hbb hbs hb12 hb2 q1 hbw1
  have hTl := pThrough_rest_le pBegin.s l
  generalize hT : pThrough pBegin.s l = T at *
  obtain ⟨T1, T2⟩ := T
  have hTl : T2.length < 64 := hTl.1
  have hi1 : (Tryd.prog.info? 23).map (·.size) = some T1.cells.size := by show _ = some 8; kernel_rfl
  have ho1 : T1.cells.all (·.oneCell') = true := wc_oneCell _
  have qz : (w2.alloc (.cells (wc (List.replicate 8 0)) 23)).heap[w2.heap.size]? = some (.cells (wc (List.replicate 8 0)) 23 (0, 0)) := al1 _ _
  have qs := setRow_heap (w2.alloc (.cells (wc (List.replicate 8 0)) 23)) w2.heap.size _ T1.cells _ _ qz
  clear hT hcv
  go_wp2_with (first
    | (refine wpList_store_row rfl 23 (.tmp 3) (.tmp 10) rfl w2.heap.size _ rfl rfl 23 _ qz hi1 rfl ho1 ?_)
    | (refine wpList_load_row rfl 23 (.tmp 3) rfl w2.heap.size rfl 23 _ (0, 0) _ qs Tryd.underlying23 rfl hi1 ?_))
  have hb3 : Below w.heap.size w ((w2.alloc (.cells (wc (List.replicate 8 0)) 23)).setRow w2.heap.size T1.cells) := below_setRow (hbw2.alloc hbw2.size _) hbw2.size _
  have hb3' : Below w2.heap.size w2 ((w2.alloc (.cells (wc (List.replicate 8 0)) 23)).setRow w2.heap.size T1.cells) := below_setRow ((Below.refl _ _).alloc (Nat.le_refl _) _) (Nat.le_refl _) _
  have hz3 : ((w2.alloc (.cells (wc (List.replicate 8 0)) 23)).setRow w2.heap.size T1.cells).heap.size = w2.heap.size + 1 := by rw [setRow_size]; simp
  refine (rend_calls T1 T2 cnt w1.heap.size off2 cap2 (by omega) _ (by rw [hz3]; omega) (hby2.below hb3' hz2)).mono ?_
  rintro en w3 ⟨rfl, hb4⟩
  have q3 := Below.at hb4 (by rw [hz3]; omega) (Below.at hb3' (by omega) q2)
  have hbw3 := hb3.trans (hb4.mono (by rw [hz3]; have := hbw2.size; omega))
  have hres := unhide Hres
  rw [hres]
  have hil : (Tryd.prog.info? 30).map (·.size) = some (bc res).size := by rw [bc_size, unhide Hrl]; kernel_rfl
  have ho2 := bc_oneCell res
  have hsz : (bc (List.replicate 32 (0 : UInt8))).size = (bc res).size := by rw [bc_size, bc_size, unhide Hrl]; rfl
  clear hres hb4 hb3 hb3' hz3 qz qs
  go_wp2_with (refine wpList_store_row rfl 30 (.tmp 2) (.tmp 17) rfl w.heap.size _ rfl rfl 30 _ q3 hil hsz ho2 ?_)
  exact bodyPost_ret (results_cell_row rfl _ _ w.heap.size _ _ _ _ rfl (setRow_heap _ _ _ _ _ _ q3) Tryd.underlying30 rfl hil) rfl ⟨rfl, below_setRow hbw3 (Nat.le_refl _) _⟩
end Go.Proofs.YtfobcchiakjhgaaDoor
