/-
  THE WALK OF THE LAW MerkleRoots: it returns true, and nothing that was there has turned.
-/
import Derived.Test.YtcmfahibdkflaaaDoorTreeE
import Derived.Test.YtcmfahibdkflaaaDoorLawMerkleProves
namespace Go.Proofs.YtcmfahibdkflaaaDoor
open Go Go.RowKit
set_option linter.unusedSimpArgs false
set_option linter.unusedVariables false

theorem wpQuiet_neq {P : Program} {ops : Array Oper} {C : World → Prop} {Q : Act → Prop} {a : Act} {o : Oper} {rest : List Oper} (hw : Region.wanted o (yielded ops a.tmps) = true) (t t' : TypeId) (x y : Operand) (ho : o.op = .binOp .neq t x y t')
    (u v : Array Value) (hx : a.eval x = .agg u) (hy : a.eval y = .agg v) (hgt : P.eqGuardType P.depth t = false) (b : Bool) (he : ∀ w, (binOp .neq t (.agg u) (.agg v)).run P w = .ok (.bool b) w)
    (h : wpQuiet P ops C Q rest (a.put o.dst (.bool b))) : wpQuiet P ops C Q (o :: rest) a := by
  show if _ then _ else _
  rw [if_pos hw]
  refine ⟨.bool b, fun w hC => ?_, h⟩
  have hg : (eqGuard .neq t x y (.agg u) (.agg v)).run P w = .ok () w := run_eqGuard_agg w .neq t x y u v hgt
  unfold Oper.quietAt execOp
  simp only [ho, hx, hy, Sem.run_bind, hg, Result.andThen_ok, he]
  exact ⟨rfl, rfl⟩
theorem dig_neq (a : List UInt8) (ha : a.length = 32) (w : World) : (binOp .neq 24 (.agg (bc a)) (.agg (bc a))).run Tryd.prog w = .ok (.bool false) w := by
  have h := equalIn_refl (P := Tryd.prog) 24 2 2 (by omega) (by kernel_rfl) (bc a) (dig_formed a ha) _ (dig_lits a ha) w
  generalize bc a = A at *
  go_simp
set_option maxHeartbeats 1000000 in
theorem merkleRoots_other (ds : List (List UInt8)) (hn : 40 < ds.length) (hlen : ds.length ≤ 9223372036854775807) (p : Option Addr) (cap : Nat) (w : World) (tabs : Tabs w) :
    Calls Tryd.prog 6 #[.slice p ds.length cap] w fun e w' => e = .returned (.bool true) ∧ Below w.heap.size w w' := by
  have d : decide ((40 : Int) < (ds.length : Int)) = true := by simp; omega
  have HT := hide tabs
  clear hn tabs
  go_enter Tryd.func6, Tryd.ntmps6
  go_wp2_with fail
  refine (mawake_calls _ (unhide HT)).mono ?_
  rintro e w1 ⟨rfl, hb1⟩
  go_wp2_with fail
  refine (mawake_calls _ ((unhide HT).below hb1 (Nat.le_refl _))).mono ?_
  rintro e w2 ⟨rfl, hb2⟩
  go_wp2
  go_ret
  exact ⟨rfl, hb1.trans (hb2.mono hb1.size)⟩
theorem of_len (ds : List (List UInt8)) (h : ds.length ≤ 4096) : (pOfD ds).length = 32 := by rw [of_st ds h]; exact pNode_length _ _
set_option maxHeartbeats 4000000 in
set_option maxRecDepth 100000 in
theorem merkleRoots_some (ds : List (List UInt8)) (hn : ds.length ≤ 40) (p : Option Addr) (cap : Nat) (hcap : ds.length ≤ cap) (w : World) (hD : DL w p ds) (tabs : Tabs w) :
    Calls Tryd.prog 6 #[.slice p ds.length cap] w fun e w' => e = .returned (.bool true) ∧ Below w.heap.size w w' := by
  have d1 : decide ((40 : Int) < (ds.length : Int)) = false := by simp; omega
  have CK := hide (fun w h t => keep_calls ds p cap hcap (by omega) w h t)
  rw [List.take_of_length_le (show ds.length ≤ 4096 by omega)] at CK
  have CR := hide (fun (es : List (List UInt8)) (he : es.length ≤ 40) L (hL : Kept es L) w t => (by
    have h := root_calls es.length (by omega) L hL.len w t
    rw [top_st es L hL 32 (Nat.le_refl _), Nat.div_eq_of_lt (show es.length < 2 ^ 32 by omega), ← of_st es (by omega)] at h
    exact h : Calls Tryd.prog 12 #[.pointer none, .agg (tr es.length L)] w fun e w' => e = .returned (.agg (bc (pOfD es))) ∧ Below w.heap.size w w'))
  have HD := hide hD
  have HT := hide tabs
  have Hn := hide hn
  have Hcap := hide hcap
  clear hD tabs hcap
  go_enter Tryd.func6, Tryd.ntmps6
  go_wp2_with fail
  refine (mawake_calls _ (unhide HT)).mono ?_
  rintro e w1 ⟨rfl, hb1⟩
  obtain ⟨G, hG⟩ : ∃ G, w1.heap.size = G := ⟨_, rfl⟩
  obtain ⟨N, hN⟩ : ∃ N, w.heap.size = N := ⟨_, rfl⟩
  have HN := hide hN
  have hNG : N ≤ G := by have := hb1.size; omega
  have AX := hide (al1 w1 (.cells Tryd.zeroCells27 27))
  have BX := hide (hb1.alloc (by have := hb1.size; omega) (.cells Tryd.zeroCells27 27))
  rw [zeroTree, hG] at AX
  rw [hN] at BX
  have HNG := hide hNG
  clear hb1 hNG
  go_wp2
  go_loopw [15] (fun i wr => ∃ k : Nat, k ≤ ds.length ∧ i = .int .i64 (k : Int) ∧ Below N w wr ∧ ∃ L, KeptBy (ds.take k) L ∧ wr.heap[G]? = some (.cells (tr k L) 27 (0, 0))) (fun i _ => ds.length - (intOf i).toNat)
  case atStart =>
    refine ⟨0, by omega, rfl, ?_, _, by rw [List.take_zero]; exact .nil, ?_⟩
    · exact unhide BX
    · rw [zeroTree]; exact unhide AX
  case round =>
    obtain ⟨k, hk, rfl, hb, L, hkept, q1⟩ := hrel
    clear AX BX hG
    by_cases hlt : k < ds.length
    · have hd : decide (k < ds.length) = true := by simpa using hlt
      have hD0 := unhide HD
      obtain ⟨b, off, rfl, hlt2, hc⟩ := hD0.2 (by intro h; rw [h] at hlt; simp at hlt)
      have hr := rangeAt_below (hc _ hlt) hb (by rw [← hN]; exact hlt2)
      have hEl := hD0.len _ hlt
      have htake : ds.take (k + 1) = ds.take k ++ [ds.getD k []] := by rw [List.take_add_one]; simp [List.getD, hlt]
      have htl : (ds.take k).length = k := by simp; omega
      have htl1 : (ds.take (k + 1)).length = k + 1 := by simp; omega
      obtain ⟨E, hE⟩ : ∃ E, ds.getD k [] = E := ⟨_, rfl⟩
      rw [hE] at hr hEl htake
      have hz : G < wr.heap.size := (Array.getElem?_eq_some_iff.1 q1).1
      have hiT := treeInfo k L hkept.kept.len
      have hiE := digInfo E hEl
      have hzE := zeroSize E hEl
      have CI := hide (fun W tb => insert_calls k (by have := unhide Hn; omega) L E hkept.kept.len hEl W tb)
      have HK := hide hkept
      have HTk := hide htake
      have HTl := hide htl
      have HTl1 := hide htl1
      have HEl := hide hEl
      have HR := hide hr
      have Q1 := hide q1
      have HB := hide hb
      have Hk := hide hlt
      have Hz := hide hz
      have b1 : (0 : Int) ≤ k ∧ (k : Int) < ds.length := by omega
      have b3 : k ≤ 4096 := by have := unhide Hn; omega
      clear q1 hb hlt hz hr hEl htake htl htl1 hE hc hlt2 hD0 hkept hk
      go_wp2_with (first
        | refine wpList_load_mid rfl 24 (.tmp 18) rfl b (off + k * 32) rfl (Lib.byteCells E) _ (unhide HR) Tryd.underlying24 rfl (by rw [Lib.byteCells_length, unhide HEl]; kernel_rfl) ?_
        | (refine wpList_store_new rfl 24 (.tmp 5) (.tmp 19) rfl wr _ _ E rfl rfl hiE hzE ?_
           intro W2 q2 hb2 z2
           have S2 := hide q2
           have S1 := hide (Below.at hb2 (unhide Hz) (unhide Q1))
           have BW := hide ((unhide HB).trans (hb2.mono (by have := unhide Hz; have := unhide HNG; omega)))
           have ZW := hide z2
           clear q2 hb2 z2)
        | refine wpList_load_row rfl 27 (.tmp 3) rfl G rfl 27 _ (0, 0) _ (unhide S1) Tryd.underlying27 rfl hiT ?_
        | refine wpList_load_row rfl 24 (.tmp 5) rfl wr.heap.size rfl 24 _ (0, 0) _ (unhide S2) Tryd.underlying24 rfl hiE ?_)
      refine (unhide CI _ ((unhide HT).below (unhide BW) (by rw [unhide HN]; exact Nat.le_refl _))).mono ?_
      rintro e w3 ⟨⟨l, hlow, hl12, rfl⟩, hb3⟩
      have p1 := hide (Below.at hb3 (by have := unhide Hz; have := unhide ZW; omega) (unhide S1))
      have BB := hide ((unhide BW).trans (hb3.mono (by have := unhide Hz; have := unhide ZW; have := unhide HNG; omega)))
      have hK2 : KeptBy (ds.take (k + 1)) (putAt L (l * 32) (pPart L E l)) := by
        rw [unhide HTk]
        exact .snoc _ _ _ _ (unhide HK) (unhide HEl) (by rw [unhide HTl]; exact hlow) hl12
      obtain ⟨L2, hL2⟩ : ∃ L2, putAt L (l * 32) (pPart L E l) = L2 := ⟨_, rfl⟩
      rw [hL2] at hK2 ⊢
      have hi2 := treeInfo (k + 1) L2 hK2.kept.len
      have ho2 := tr_one (k + 1) L2
      have hz2 : (tr k L).size = (tr (k + 1) L2).size := by rw [tr_size, tr_size, hK2.kept.len, (unhide HK).kept.len]
      have HK2 := hide hK2
      clear hK2 hL2 hlow hl12 hb3
      go_wp2_with (refine wpList_store_row rfl 27 (.tmp 3) (.tmp 24) rfl G _ rfl rfl 27 _ (unhide p1) hi2 hz2 ho2 ?_)
      have B5 := below_setRow (unhide BB) (unhide HNG) (tr (k + 1) L2)
      have q5 := setRow_heap w3 G _ (tr (k + 1) L2) _ _ (unhide p1)
      have s5 := size_setRow w3 G (tr (k + 1) L2)
      have z5 : G < w3.heap.size := (Array.getElem?_eq_some_iff.1 (unhide p1)).1
      obtain ⟨w5, hw5⟩ : ∃ w5, w3.setRow G (tr (k + 1) L2) = w5 := ⟨_, rfl⟩
      rw [hw5] at B5 q5 s5 ⊢
      have z5' : G < w5.heap.size := by omega
      have T5 := (unhide HT).below B5 (by rw [unhide HN]; exact Nat.le_refl _)
      have D5 := ((unhide HD).below B5 (by rw [unhide HN]; exact Nat.le_refl _)).take (k + 1)
      have hROl := of_len (ds.take (k + 1)) (by rw [unhide HTl1]; omega)
      have cO := fun W h t => of_calls (ds.take (k + 1)) (some ⟨b, off, none⟩) cap (by rw [unhide HTl1]; have := unhide Hcap; have := unhide Hk; omega) (by rw [unhide HTl1]; omega) W h t
      have cR := fun W t => unhide CR (ds.take (k + 1)) (by rw [unhide HTl1]; have := unhide Hk; have := unhide Hn; omega) L2 (unhide HK2).kept W t
      rw [unhide HTl1] at cO cR
      obtain ⟨RO, hRO⟩ : ∃ R, pOfD (ds.take (k + 1)) = R := ⟨_, rfl⟩
      rw [hRO] at cO cR hROl
      have e1 : ((k + 1 : Nat) : Int) = (k : Int) + 1 := by omega
      have kR : Hid (∀ dd os, Calls Tryd.prog 12 #[.pointer none, .agg (tr (k + 1) L2)] (Sort.grow (redrawn w5 dd) os) fun e w'' => e = .returned (.agg (bc RO)) ∧ ∃ p : Regrown, w'' = Sort.grow (redrawn w5 p.d) p.os) := fun dd os => Calls.regrown_of (cR _ (T5.below (below_regrown w5 dd os) (Nat.le_refl _)))
      have kO : Hid (∀ dd os, Calls Tryd.prog 16 #[.pointer none, .slice (some ⟨b, off, none⟩) (k + 1) cap] (Sort.grow (redrawn w5 dd) os) fun e w'' => e = .returned (.agg (bc RO)) ∧ ∃ p : Regrown, w'' = Sort.grow (redrawn w5 p.d) p.os) := fun dd os => Calls.regrown_of (cO _ (D5.below (below_regrown w5 dd os) (Nat.le_refl _)) (T5.below (below_regrown w5 dd os) (Nat.le_refl _)))
      have cell5 : ∀ d os, (Sort.grow (redrawn w5 d) os).cell? ⟨G, 0, none⟩ = some (.int .u32 ((k : Int) + 1)) := fun d os => by
        rw [(below_regrown w5 d os).cell (p := ⟨G, 0, none⟩) z5', (tr_cell q5).1, e1]
      have R5 : Hid (∀ w', (∃ p : Regrown, w' = Sort.grow (redrawn w5 p.d) p.os) → w'.heap[G]? = some (.cells (tr (k + 1) L2) 27 (0, 0))) := fun w' ⟨p, hp⟩ => by
        rw [hp]; exact Below.at (below_regrown w5 p.d p.os) z5' q5
      have HNE := hide (dig_neq RO hROl)
      have wk : IntKind.u32.wrap (k : Int) = (k : Int) := by rw [IntKind.wrap_u32']; omega
      have wk1 : IntKind.u32.wrap ((k : Int) + 1) = (k : Int) + 1 := by rw [IntKind.wrap_u32']; omega
      have wk2 : IntKind.i64.wrap ((k : Int) + 1) = (k : Int) + 1 := wi64 _ (by omega) (by omega)
      have hcp : (0 : Int) ≤ (k : Int) + 1 ∧ (k : Int) + 1 ≤ cap := by have := unhide Hcap; have := unhide Hk; omega
      have HB5 := hide B5
      have Q5 := hide q5
      have Z5 := hide z5'
      clear B5 q5 s5 z5 z5' T5 D5 cO cR hRO hROl e1 hw5
      go_wp2_with fail
      refine wp_region_below mixed (by kernel_rfl) ?_
      quiet_step (fail)
      quiet_step (fail)
      quiet_step (fail)
      quiet_step (fail)
      quiet_step (fail)
      quiet_step (fail)
      quiet_step (fail)
      quiet_step (fail)
      quiet_step (fail)
      quiet_step (fail)
      quiet_step (fail)
      refine wpQuiet_load_row rfl 27 (.tmp 3) rfl G rfl 27 _ (0, 0) _ (unhide R5) Tryd.underlying27 rfl hi2 ?_
      quiet_step (exact unhide kR _ _)
      quiet_step (fail)
      quiet_step (fail)
      quiet_step (fail)
      quiet_step (fail)
      quiet_step (exact unhide kO _ _)
      refine wpQuiet_neq rfl 24 24 (.tmp 38) (.tmp 43) rfl _ _ rfl rfl (by kernel_rfl) _ (unhide HNE) ?_
      quiet_step (fail)
      refine wpQuiet_nil ?_
      intro w6 hb6
      have P6 := hide (Below.at hb6 (unhide Z5) (unhide Q5))
      have B6 := hide ((unhide HB5).trans (hb6.mono (by have := unhide Z5; have := unhide HNG; omega)))
      clear hb6
      go_wp2
      exact ⟨⟨k + 1, by have := unhide Hk; omega, by go_num, unhide B6, L2, unhide HK2, unhide P6⟩, by have := unhide Hk; simp [intOf]; omega⟩
    · have hd : decide (k < ds.length) = false := by simpa using hlt
      have hkl : k = ds.length := by omega
      rw [hkl, List.take_length] at hkept
      rw [hkl] at q1
      have T5 := (unhide HT).below hb (by rw [unhide HN]; exact Nat.le_refl _)
      have D5 := (unhide HD).below hb (by rw [unhide HN]; exact Nat.le_refl _)
      have hz : G < wr.heap.size := (Array.getElem?_eq_some_iff.1 q1).1
      have hiT := treeInfo ds.length L hkept.kept.len
      have HE := hide (tree_eql ds.length (by have := unhide Hn; omega) L hkept.kept.len)
      have kA : Hid (∀ dd os, Calls Tryd.prog 9 #[] (Sort.grow (redrawn wr dd) os) fun e w'' => e = .returned (.bool true) ∧ ∃ p : Regrown, w'' = Sort.grow (redrawn wr p.d) p.os) := fun dd os => Calls.regrown_of (mawake_calls _ (T5.below (below_regrown wr dd os) (Nat.le_refl _)))
      have kK : Hid (∀ dd os, Calls Tryd.prog 18 #[.pointer none, .slice p ds.length cap] (Sort.grow (redrawn wr dd) os) fun e w'' => e = .returned (.agg (tr ds.length L)) ∧ ∃ p : Regrown, w'' = Sort.grow (redrawn wr p.d) p.os) := fun dd os => Calls.regrown_of (by
        refine (unhide CK _ (D5.below (below_regrown wr dd os) (Nat.le_refl _)) (T5.below (below_regrown wr dd os) (Nat.le_refl _))).mono ?_
        rintro e w' ⟨⟨L', hL', rfl⟩, hb'⟩
        rw [hkept.unique hL']
        exact ⟨rfl, hb'⟩)
      have R5 : Hid (∀ w', (∃ p : Regrown, w' = Sort.grow (redrawn wr p.d) p.os) → w'.heap[G]? = some (.cells (tr ds.length L) 27 (0, 0))) := fun w' ⟨p, hp⟩ => by
        rw [hp]; exact Below.at (below_regrown wr p.d p.os) hz q1
      have HB := hide hb
      have HZ : Hid (N ≤ wr.heap.size) := hide (by have := unhide HNG; omega)
      clear q1 hb hkl hlt hkept T5 D5 hz
      go_wp2_with fail
      refine wp_region_below mixed (by kernel_rfl) ?_
      quiet_step (exact unhide kA _ _)
      quiet_step (fail)
      refine wpQuiet_load_row rfl 27 (.tmp 3) rfl G rfl 27 _ (0, 0) _ (unhide R5) Tryd.underlying27 rfl hiT ?_
      quiet_step (fail)
      quiet_step (exact unhide kK _ _)
      refine wpQuiet_eql rfl 27 27 (.tmp 49) (.tmp 51) rfl _ _ rfl rfl (by kernel_rfl) _ (unhide HE) ?_
      quiet_step (fail)
      quiet_step (fail)
      refine wpQuiet_nil ?_
      intro w6 hb6
      go_wp2
      go_ret
      exact ⟨rfl, by rw [unhide HN]; exact (unhide HB).trans (hb6.mono (unhide HZ))⟩
theorem merkleRoots_walk (ds : List (List UInt8)) (hlen : ds.length ≤ 9223372036854775807) (p : Option Addr) (cap : Nat) (hcap : ds.length ≤ cap) (w : World) (hD : DL w p ds) (tabs : Tabs w) :
    Calls Tryd.prog 6 #[.slice p ds.length cap] w fun e w' => e = .returned (.bool true) ∧ Below w.heap.size w w' := by
  by_cases h : 40 < ds.length
  · exact merkleRoots_other ds h hlen p cap w tabs
  · exact merkleRoots_some ds (by omega) p cap hcap w hD tabs
end Go.Proofs.YtcmfahibdkflaaaDoor
