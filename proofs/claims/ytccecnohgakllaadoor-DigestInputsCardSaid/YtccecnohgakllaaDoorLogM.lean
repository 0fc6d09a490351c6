/-
  WHAT note DOES TO A LOG THAT HAS NO MAPS YET.
-/
import Derived.Test.YtccecnohgakllaaDoorLogN
namespace Go.Proofs.YtccecnohgakllaaDoor
open Go Go.RowKit Go.Maps
set_option linter.unusedSimpArgs false
set_option linter.unusedVariables false

set_option maxHeartbeats 2000000 in
set_option maxRecDepth 100000 in
theorem note_none (b : Nat) (s d : List UInt8) (hd : d.length = 32) (hds : d = pSum [s]) (hs : s.length ≤ maxLen) (w : World) (hL : LogAt w b none []) :
    Calls Tryd.prog 23 #[.pointer (some ⟨b, 0, none⟩), .string (str s), .agg (bc d)] w fun e w' => e = .returned (.tuple #[]) ∧ (∃ m1 m2, LogAt w' b (some (m1, m2)) [s] ∧ w.heap.size ≤ m1 ∧ w.heap.size ≤ m2) ∧ But b none w w' := by
  obtain ⟨_, l1⟩ := hL
  have hi0 := digInfo d hd
  have q0 := al1 w (.cells (bc d) 24)
  have b0 := (Below.refl w.heap.size w).alloc (Nat.le_refl _) (.cells (bc d) 24)
  have sX : (w.alloc (.cells (bc d) 24)).heap.size = w.heap.size + 1 := by simp
  obtain ⟨X, hX⟩ : ∃ X, w.alloc (.cells (bc d) 24) = X := ⟨_, rfl⟩
  rw [hX] at q0 b0 sX
  have HX := hide hX
  have x1 := Below.at b0 (Array.getElem?_eq_some_iff.1 l1).1 l1
  have bl := (Array.getElem?_eq_some_iff.1 l1).1
  have c0 : X.cell? ⟨b, 0, none⟩ = some (.map none) := by rw [cell_of_row _ _ _ _ _ _ x1]; rfl
  have f0 := frozen_of_row X b 0 _ _ x1
  have f1 := frozen_of_row X b 1 _ _ x1
  have qm : ∀ (w : World) (r : Option Nat), (binOp .eql 47 (.map r) (.map none)).run Tryd.prog w = .ok (.bool r.isNone) w := fun w r => run_eql_map_nil w _ _ _ r Tryd.underlying47
  have KS := hide (keyOf_text s hs)
  have KD := hide (dKey_is d hd)
  have BL := hide bl
  have Q0 := hide q0
  have HDS := hide hds
  have Hs := hide hs
  have SX := hide sX
  have X1 := hide x1
  have hmm := @run_makeMap Tryd.prog
  have y1 : (X.alloc (.map #[] 0)).heap[b]? = some (.cells #[.map none, .map none] 50 (0, 0)) := (heap_alloc_old X _ (Array.getElem?_eq_some_iff.1 x1).1).trans x1
  have g0 : (X.alloc (.map #[] 0)).cell? ⟨b, 0, none⟩ = some (.map none) := by rw [cell_of_row _ _ _ _ _ _ y1]; rfl
  have g1 := frozen_of_row (X.alloc (.map #[] 0)) b 0 _ _ y1
  have y2 := heap_setCell_same (X.alloc (.map #[] 0)) b 0 _ _ (.map (some X.heap.size)) y1
  have y3 : (((X.alloc (.map #[] 0)).setCell ⟨b, 0, none⟩ (.map (some X.heap.size))).alloc (.map #[] 0)).heap[b]? = some (.cells #[.map (some X.heap.size), .map none] 50 (0, 0)) := (heap_alloc_old _ _ (Array.getElem?_eq_some_iff.1 y2).1).trans y2
  have g3 : (((X.alloc (.map #[] 0)).setCell ⟨b, 0, none⟩ (.map (some X.heap.size))).alloc (.map #[] 0)).cell? ⟨b, 1, none⟩ = some (.map none) := by rw [cell_of_row _ _ _ _ _ _ y3]; rfl
  have g4 := frozen_of_row (((X.alloc (.map #[] 0)).setCell ⟨b, 0, none⟩ (.map (some X.heap.size))).alloc (.map #[] 0)) b 1 _ _ y3
  have Y3 := hide y3
  clear hX hds hs l1 q0 sX bl x1 y1 y2 y3 f1
  go_enter Tryd.func23, Tryd.ntmps23
  go_wp2_with (rw [unhide HX])
  obtain ⟨Y, hY⟩ : ∃ Y, (((X.alloc (.map #[] 0)).setCell ⟨b, 0, none⟩ (.map (some X.heap.size))).alloc (.map #[] 0)).setCell ⟨b, 1, none⟩ (.map (some (X.heap.size + 1))) = Y := ⟨_, rfl⟩
  have hbx : b < X.heap.size := by have := unhide BL; have := unhide SX; omega
  have s2 : ((X.alloc (.map #[] 0)).setCell ⟨b, 0, none⟩ (.map (some X.heap.size))).heap.size = X.heap.size + 1 := by simp
  have yb := heap_setCell_same (((X.alloc (.map #[] 0)).setCell ⟨b, 0, none⟩ (.map (some X.heap.size))).alloc (.map #[] 0)) b 1 _ _ (.map (some (X.heap.size + 1))) (unhide Y3)
  have o1 := (((World.ownsMap_made X Tryd.prog 9 R0).setCell (a := ⟨b, 0, none⟩) (by show X.heap.size ≠ b; omega) (.map (some X.heap.size))).alloc (.map #[] 0)).setCell (a := ⟨b, 1, none⟩) (by show X.heap.size ≠ b; omega) (.map (some (X.heap.size + 1)))
  have o2 := (World.ownsMap_made ((X.alloc (.map #[] 0)).setCell ⟨b, 0, none⟩ (.map (some X.heap.size))) Tryd.prog 24 R0).setCell (a := ⟨b, 1, none⟩) (by rw [s2]; show X.heap.size + 1 ≠ b; omega) (.map (some (X.heap.size + 1)))
  rw [s2] at o2
  have ob : ∀ k, k < X.heap.size → k ≠ b → ((((X.alloc (.map #[] 0)).setCell ⟨b, 0, none⟩ (.map (some X.heap.size))).alloc (.map #[] 0)).setCell ⟨b, 1, none⟩ (.map (some (X.heap.size + 1)))).heap[k]? = X.heap[k]? := fun k hk hne => by
    rw [heap_setCell_other _ _ _ _ hne, heap_alloc_old _ _ (by rw [s2]; omega), heap_setCell_other _ _ _ _ hne, heap_alloc_old _ _ hk]
  have osz : ((((X.alloc (.map #[] 0)).setCell ⟨b, 0, none⟩ (.map (some X.heap.size))).alloc (.map #[] 0)).setCell ⟨b, 1, none⟩ (.map (some (X.heap.size + 1)))).heap.size = X.heap.size + 1 + 1 := by simp
  have oos : ((((X.alloc (.map #[] 0)).setCell ⟨b, 0, none⟩ (.map (some X.heap.size))).alloc (.map #[] 0)).setCell ⟨b, 1, none⟩ (.map (some (X.heap.size + 1)))).os = X.os := rfl
  have otp : ((((X.alloc (.map #[] 0)).setCell ⟨b, 0, none⟩ (.map (some X.heap.size))).alloc (.map #[] 0)).setCell ⟨b, 1, none⟩ (.map (some (X.heap.size + 1)))).tape = X.tape := rfl
  have oou : ((((X.alloc (.map #[] 0)).setCell ⟨b, 0, none⟩ (.map (some X.heap.size))).alloc (.map #[] 0)).setCell ⟨b, 1, none⟩ (.map (some (X.heap.size + 1)))).output = X.output := rfl
  rw [hY] at yb o1 o2 ob osz oos otp oou ⊢
  have HB0 := hide b0
  have HOB := hide ob
  have HOS := hide osz
  have HO1 := hide oos
  have HO2 := hide otp
  have HO3 := hide oou
  obtain ⟨G, hG⟩ : ∃ G, X.heap.size = G := ⟨_, rfl⟩
  rw [hG] at yb o1 o2 ⊢
  obtain ⟨H0, hH0⟩ : ∃ H0, w.heap.size = H0 := ⟨_, rfl⟩
  have HH := hide (show H0 + 1 = G by have := unhide SX; omega)
  have M1 := hide (show G = X.heap.size from hG.symm)
  have Q0' := hide ((ob w.heap.size (by have := unhide SX; omega) (by have := unhide BL; omega)).trans (unhide Q0))
  rw [hH0] at Q0' ⊢
  have HW := hide hH0
  have BLL := hide (show b < H0 by have := unhide BL; omega)
  have x1 : Y.heap[b]? = some (.cells #[.map (some G), .map (some (G + 1))] 50 (0, 0)) := yb
  have x5 := hide (show Y.ownsMap Tryd.prog 9 R0 G 0 (setOf u0 (([] : List (List UInt8)).map Lit.string)) from o1)
  have x6 := hide (show Y.ownsMap Tryd.prog 24 R0 (G + 1) 0 (setOf u0 (([] : List (List UInt8)).map fun s => dKey (pSum [s]))) from o2)
  have c0 : ∀ dd os, (Sort.grow (redrawn Y dd) os).cell? ⟨b, 0, none⟩ = some (.map (some G)) := fun dd os => by
    rw [cell_of_row _ _ _ _ _ _ (Below.at (below_regrown Y dd os) (Array.getElem?_eq_some_iff.1 x1).1 x1)]; rfl
  have r0 : Hid (∀ w', (∃ p : Regrown, w' = Sort.grow (redrawn Y p.d) p.os) → w'.heap[H0]? = some (.cells (bc d) 24 (0, 0))) := fun w' ⟨p, hp⟩ => by rw [hp]; exact Below.at (below_regrown Y p.d p.os) (Array.getElem?_eq_some_iff.1 (unhide Q0')).1 (unhide Q0')
  clear b0 ob osz oos otp oou yb o1 o2 hY hG hH0 hbx s2 Y3 g0 g1 g3 g4 f0 hmm
  refine wp_region_below_tail 6 mixed (by kernel_rfl) ?_
  simp only [List.take_succ_cons, List.take_zero, List.drop_succ_cons, List.drop_zero]
  quiet_step (fail)
  quiet_step (fail)
  quiet_step (fail)
  quiet_step (fail)
  quiet_step (fail)
  refine wpQuiet_load_row rfl 24 (.tmp 5) rfl H0 rfl 24 _ (0, 0) _ (unhide r0) Tryd.underlying24 rfl hi0 ?_
  refine wpQuiet_nil ?_
  intro w2 b2
  have y5 := (unhide x5).kept (grown_of_below b2 none) (by simp)
  have y6 := hide ((unhide x6).kept (grown_of_below b2 none) (by simp))
  have y1 := hide (Below.at b2 (Array.getElem?_eq_some_iff.1 x1).1 x1)
  have z0 := hide (Below.at b2 (Array.getElem?_eq_some_iff.1 (unhide Q0')).1 (unhide Q0'))
  have B2 := hide b2
  clear c0 r0 x5 x6 x1
  go_wp2_with (at_mapUpdate; refine wpList_mapUpdate_own _ rfl (.tmp 24) (.tmp 25) (.tmp 26) 47 rfl 9 24 lawS Tryd.underlying47 R0 G 0 _ rfl y5 (by unfold maxLen; omega) _ _ (.string s) rfl rfl (unhide KS) u0 [] rfl ?_; intro w3 o3 g3)
  have k1 : w3.heap[b]? = some (.cells #[.map (some G), .map (some (G + 1))] 50 (0, 0)) := (g3.block b (Array.getElem?_eq_some_iff.1 (unhide y1)).1 (fun e => by have := Option.some.inj e; have := unhide BLL; have := unhide HH; omega)).trans (unhide y1)
  have k0 : w3.heap[H0]? = some (.cells (bc d) 24 (0, 0)) := (g3.block _ (Array.getElem?_eq_some_iff.1 (unhide z0)).1 (fun e => by have := Option.some.inj e; have := unhide HH; omega)).trans (unhide z0)
  have y6' := hide ((unhide y6).kept g3 (fun e => by have := Option.some.inj e; omega))
  have c0 : ∀ dd os, (Sort.grow (redrawn w3 dd) os).cell? ⟨b, 1, none⟩ = some (.map (some (G + 1))) := fun dd os => by
    rw [cell_of_row _ _ _ _ _ _ (Below.at (below_regrown w3 dd os) (Array.getElem?_eq_some_iff.1 k1).1 k1)]; rfl
  have r0 : Hid (∀ w', (∃ p : Regrown, w' = Sort.grow (redrawn w3 p.d) p.os) → w'.heap[H0]? = some (.cells (bc d) 24 (0, 0))) := fun w' ⟨p, hp⟩ => by rw [hp]; exact Below.at (below_regrown w3 p.d p.os) (Array.getElem?_eq_some_iff.1 k0).1 k0
  have G3 := hide g3
  have O3 := hide o3
  have K1 := hide k1
  clear g3 o3 k1 k0 y5
  go_wp2_with fail
  refine wp_region_below_tail 6 mixed (by kernel_rfl) ?_
  simp only [List.take_succ_cons, List.take_zero, List.drop_succ_cons, List.drop_zero]
  quiet_step (fail)
  quiet_step (fail)
  quiet_step (fail)
  quiet_step (fail)
  refine wpQuiet_load_row rfl 24 (.tmp 5) rfl H0 rfl 24 _ (0, 0) _ (unhide r0) Tryd.underlying24 rfl hi0 ?_
  quiet_step (fail)
  refine wpQuiet_nil ?_
  intro w4 b4
  have B4 := hide b4
  have v6 := (unhide y6').kept (grown_of_below b4 none) (by simp)
  have v5 := hide ((unhide O3).kept (grown_of_below b4 none) (by simp))
  have v1 := hide (Below.at b4 (Array.getElem?_eq_some_iff.1 (unhide K1)).1 (unhide K1))
  clear c0 r0
  go_wp2_with (at_mapUpdate; refine wpList_mapUpdate_own _ rfl (.tmp 30) (.tmp 31) (.tmp 32) 48 rfl 24 56 lawD Tryd.underlying48 R0 (G + 1) 0 _ rfl v6 (by unfold maxLen; omega) _ _ (dKey d) rfl rfl (unhide KD) u0 [] rfl ?_; intro w5 o5 g5)
  have f1 : w5.heap[b]? = some (.cells #[.map (some G), .map (some (G + 1))] 50 (0, 0)) := (g5.block b (Array.getElem?_eq_some_iff.1 (unhide v1)).1 (fun e => by have := Option.some.inj e; have := unhide BLL; have := unhide HH; omega)).trans (unhide v1)
  have f5 := (unhide v5).kept g5 (fun e => by have := Option.some.inj e; omega)
  refine bodyPost_end (results_none rfl _ _ _) rfl ⟨rfl, ⟨G, G + 1, ⟨f1, by omega, by have := unhide BLL; have := unhide HH; omega, by have := unhide BLL; have := unhide HH; omega, f5, ?_⟩, by have := unhide HH; have := unhide HW; omega, by have := unhide HH; have := unhide HW; omega⟩, ?_⟩
  · show w5.ownsMap _ _ _ _ _ (setOf u0 [dKey (pSum [s])])
    rw [← unhide HDS]; exact o5
  · have e0 := unhide HB0
    have e2 := unhide B2
    have e3 := unhide G3
    have e4 := unhide B4
    have hX : X.heap.size = G := (unhide M1).symm
    have hW := unhide HW
    have hHH := unhide HH
    have sY := unhide HOS
    have z2 := e2.size
    have z3 := e3.size
    have z4 := e4.size
    have z5 := g5.size
    refine ⟨g5.os.trans (e4.os.trans (e3.os.trans (e2.os.trans ((unhide HO1).trans e0.os)))), g5.tape.trans (e4.tape.trans (e3.tape.trans (e2.tape.trans ((unhide HO2).trans e0.tape)))), g5.output.trans (e4.output.trans (e3.output.trans (e2.output.trans ((unhide HO3).trans e0.output)))), by omega, fun k hk hne _ => ?_⟩
    rw [g5.block k (by omega) (fun e => by have := Option.some.inj e; omega), e4.block k (by omega), e3.block k (by omega) (fun e => by have := Option.some.inj e; omega), e2.block k (by omega), unhide HOB k (by omega) hne]
    exact e0.block k hk
end Go.Proofs.YtccecnohgakllaaDoor
