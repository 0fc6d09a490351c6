/-
  WHAT note DOES TO A LOG.
-/
import Derived.Test.YtccecnohgakllaaDoorLogK
import Derived.Test.YtccecnohgakllaaDoorQuietRow
import Derived.Test.YtccecnohgakllaaDoorQuietTail
import Derived.WalkSpells
import Derived.Carry
namespace Go.Proofs.YtccecnohgakllaaDoor
open Go Go.RowKit Go.Maps
set_option linter.unusedSimpArgs false
set_option linter.unusedVariables false

theorem grown_of_below {w w' : World} (h : Below w.heap.size w w') (row : Option Nat) : w.grownBy w' row := ⟨h.os, h.tape, h.output, h.size, fun k hk _ => h.block k hk⟩
theorem But.of_grown1 {b m1 m2 : Nat} {w w' : World} (h : w.grownBy w' (some m1)) : But b (some (m1, m2)) w w' := ⟨h.os, h.tape, h.output, h.size, fun k hk _ hm => h.block k hk fun e => (hm _ rfl).1 (Option.some.inj e)⟩
theorem But.of_grown2 {b m1 m2 : Nat} {w w' : World} (h : w.grownBy w' (some m2)) : But b (some (m1, m2)) w w' := ⟨h.os, h.tape, h.output, h.size, fun k hk _ hm => h.block k hk fun e => (hm _ rfl).2 (Option.some.inj e)⟩
set_option maxHeartbeats 2000000 in
set_option maxRecDepth 100000 in
theorem note_some (b m1 m2 : Nat) (ins : List (List UInt8)) (s d : List UInt8) (hd : d.length = 32) (hds : d = pSum [s]) (hs : s.length ≤ maxLen) (hn : ins.length < 1000000) (w : World) (hL : LogAt w b (some (m1, m2)) ins) :
    Calls Tryd.prog 23 #[.pointer (some ⟨b, 0, none⟩), .string (str s), .agg (bc d)] w fun e w' => e = .returned (.tuple #[]) ∧ LogAt w' b (some (m1, m2)) (ins ++ [s]) ∧ But b (some (m1, m2)) w w' := by
  obtain ⟨l1, l2, l3, l4, l5, l6⟩ := hL
  have hi0 := digInfo d hd
  have q0 := al1 w (.cells (bc d) 24)
  have b0 := (Below.refl w.heap.size w).alloc (Nat.le_refl _) (.cells (bc d) 24)
  obtain ⟨X, hX⟩ : ∃ X, w.alloc (.cells (bc d) 24) = X := ⟨_, rfl⟩
  rw [hX] at q0 b0
  have HX := hide hX
  have x1 := Below.at b0 (Array.getElem?_eq_some_iff.1 l1).1 l1
  have x5 := hide (l5.kept (grown_of_below b0 none) (by simp))
  have x6 := hide (l6.kept (grown_of_below b0 none) (by simp))
  have c0 : ∀ dd os, (Sort.grow (redrawn X dd) os).cell? ⟨b, 0, none⟩ = some (.map (some m1)) := fun dd os => by
    rw [cell_of_row _ _ _ _ _ _ (Below.at (below_regrown X dd os) (Array.getElem?_eq_some_iff.1 x1).1 x1)]; rfl
  have c00 : X.cell? ⟨b, 0, none⟩ = some (.map (some m1)) := by rw [cell_of_row _ _ _ _ _ _ x1]; rfl
  have r0 : Hid (∀ w', (∃ p : Regrown, w' = Sort.grow (redrawn X p.d) p.os) → w'.heap[w.heap.size]? = some (.cells (bc d) 24 (0, 0))) := fun w' ⟨p, hp⟩ => by rw [hp]; exact Below.at (below_regrown X p.d p.os) (Array.getElem?_eq_some_iff.1 q0).1 q0
  have qm : ∀ (w : World) (r : Option Nat), (binOp .eql 47 (.map r) (.map none)).run Tryd.prog w = .ok (.bool r.isNone) w := fun w r => run_eql_map_nil w _ _ _ r Tryd.underlying47
  have KS := hide (keyOf_text s hs)
  have KD := hide (dKey_is d hd)
  have M1 := hide l5.lt
  have M2 := hide l6.lt
  have BL := hide (Array.getElem?_eq_some_iff.1 l1).1
  have Q0 := hide q0
  have HDS := hide hds
  have Hs := hide hs
  have L3 := hide l3
  have L2 := hide l2
  have L4 := hide l4
  clear hX hds hs l1 l2 l3 l4 l5 l6 q0
  go_enter Tryd.func23, Tryd.ntmps23
  go_wp2_with (rw [unhide HX])
  refine wp_region_below_tail 6 mixed (by kernel_rfl) ?_
  simp only [List.take_succ_cons, List.take_zero, List.drop_succ_cons, List.drop_zero]
  quiet_step (fail)
  quiet_step (fail)
  quiet_step (fail)
  quiet_step (fail)
  quiet_step (fail)
  refine wpQuiet_load_row rfl 24 (.tmp 5) rfl w.heap.size rfl 24 _ (0, 0) _ (unhide r0) Tryd.underlying24 rfl hi0 ?_
  refine wpQuiet_nil ?_
  intro w2 b2
  have y5 := (unhide x5).kept (grown_of_below b2 none) (by simp)
  have y6 := hide ((unhide x6).kept (grown_of_below b2 none) (by simp))
  have y1 := hide (Below.at b2 (Array.getElem?_eq_some_iff.1 x1).1 x1)
  have z0 := hide (Below.at b2 (Array.getElem?_eq_some_iff.1 (unhide Q0)).1 (unhide Q0))
  have bw2 := b0.trans (b2.mono b0.size)
  clear c0 c00 r0 x5 x6 x1
  go_wp2_with (at_mapUpdate; refine wpList_mapUpdate_own _ rfl (.tmp 24) (.tmp 25) (.tmp 26) 47 rfl 9 24 lawS Tryd.underlying47 R0 m1 ins.length _ rfl y5 (by unfold maxLen; omega) _ _ (.string s) rfl rfl (unhide KS) u0 [] rfl ?_; intro w3 o3 g3)
  have k1 : w3.heap[b]? = some (.cells #[.map (some m1), .map (some m2)] 50 (0, 0)) := (g3.block b (Array.getElem?_eq_some_iff.1 (unhide y1)).1 (fun e => unhide L3 (Option.some.inj e))).trans (unhide y1)
  have k0 : w3.heap[w.heap.size]? = some (.cells (bc d) 24 (0, 0)) := (g3.block _ (Array.getElem?_eq_some_iff.1 (unhide z0)).1 (fun e => by have := Option.some.inj e; have := unhide M1; omega)).trans (unhide z0)
  have y6' := hide ((unhide y6).kept g3 (fun e => unhide L2 (Option.some.inj e).symm))
  have c0 : ∀ dd os, (Sort.grow (redrawn w3 dd) os).cell? ⟨b, 1, none⟩ = some (.map (some m2)) := fun dd os => by
    rw [cell_of_row _ _ _ _ _ _ (Below.at (below_regrown w3 dd os) (Array.getElem?_eq_some_iff.1 k1).1 k1)]; rfl
  have r0 : Hid (∀ w', (∃ p : Regrown, w' = Sort.grow (redrawn w3 p.d) p.os) → w'.heap[w.heap.size]? = some (.cells (bc d) 24 (0, 0))) := fun w' ⟨p, hp⟩ => by rw [hp]; exact Below.at (below_regrown w3 p.d p.os) (Array.getElem?_eq_some_iff.1 k0).1 k0
  have G3 := hide g3
  have O3 := hide o3
  have K1 := hide k1
  clear g3 o3 k1 k0 y5
  go_wp2_with fail
  refine wp_region_below_tail 6 mixed (by kernel_rfl) ?_
  simp only [List.take_succ_cons, List.take_zero, List.drop_succ_cons, List.drop_zero]
  quiet_step (fail)
  quiet_step (fail)
  quiet_step (fail)
  quiet_step (fail)
  refine wpQuiet_load_row rfl 24 (.tmp 5) rfl w.heap.size rfl 24 _ (0, 0) _ (unhide r0) Tryd.underlying24 rfl hi0 ?_
  quiet_step (fail)
  refine wpQuiet_nil ?_
  intro w4 b4
  have v6 := (unhide y6').kept (grown_of_below b4 none) (by simp)
  have v5 := hide ((unhide O3).kept (grown_of_below b4 none) (by simp))
  have v1 := hide (Below.at b4 (Array.getElem?_eq_some_iff.1 (unhide K1)).1 (unhide K1))
  clear c0 r0
  go_wp2_with (at_mapUpdate; refine wpList_mapUpdate_own _ rfl (.tmp 30) (.tmp 31) (.tmp 32) 48 rfl 24 56 lawD Tryd.underlying48 R0 m2 ins.length _ rfl v6 (by unfold maxLen; omega) _ _ (dKey d) rfl rfl (unhide KD) u0 [] rfl ?_; intro w5 o5 g5)
  have f1 : w5.heap[b]? = some (.cells #[.map (some m1), .map (some m2)] 50 (0, 0)) := (g5.block b (Array.getElem?_eq_some_iff.1 (unhide v1)).1 (fun e => unhide L4 (Option.some.inj e))).trans (unhide v1)
  have f5 := (unhide v5).kept g5 (fun e => unhide L2 (Option.some.inj e))
  have hlen : (ins ++ [s]).length = ins.length + 1 := by simp
  refine bodyPost_end (results_none rfl _ _ _) rfl ⟨rfl, ⟨f1, unhide L2, unhide L3, unhide L4, ?_, ?_⟩, ?_⟩
  · rw [hlen, List.map_append, List.map_cons, List.map_nil, setOf_snoc]; exact f5
  · rw [hlen, List.map_append, List.map_cons, List.map_nil, setOf_snoc, ← unhide HDS]; exact o5
  · have e1 : But b (some (m1, m2)) w w2 := ⟨bw2.os, bw2.tape, bw2.output, bw2.size, fun k hk _ _ => bw2.block k hk⟩
    exact ((e1.trans (But.of_grown1 (unhide G3)) (.inl rfl)).trans (But.of_below b4) (.inl rfl)).trans (But.of_grown2 g5) (.inl rfl)
end Go.Proofs.YtccecnohgakllaaDoor
