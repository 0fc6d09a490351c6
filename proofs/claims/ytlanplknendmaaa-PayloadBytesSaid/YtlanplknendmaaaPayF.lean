/-
  WHAT package payload's Must DOES; THE LAYER's panics AND awake.
-/
import Derived.Test.YtlanplknendmaaaPayE
import Derived.Defers
import Derived.Recover
namespace Go.Proofs.Ytlanplknendmaaa
open Go.RowKit
set_option linter.unusedSimpArgs false
set_option linter.unusedVariables false

theorem bare_hit (v : Value) (x : TypeId) (w : World) : (Instr.typeAssert (.iface 44 v) x 44 false).run Try.prog w = .ok v w := by
  simp [Instr.typeAssert, run_underlying Try.underlying44, go_sem]
noncomputable def tae (x : TypeId) (v : Value) : Obj := .cells #[typeHandle Try.prog x, v, typeHandle Try.prog 44, strVal ""] 98
theorem bare_nil (x : TypeId) (w : World) : (Instr.typeAssert .nilIface x 44 false).run Try.prog w = .halt (.panic (.iface 15 (.pointer (some ⟨w.heap.size, 0, none⟩)))) (w.alloc (tae x (.pointer none))) := by
  simp [Instr.typeAssert, run_underlying Try.underlying44, runtimePanic, goPanic, elemOf, run_underlying Try.underlying15, go_sem, tae]
theorem bare_miss (t : TypeId) (ht : t ≠ 44) (v : Value) (x : TypeId) (w : World) : (Instr.typeAssert (.iface t v) x 44 false).run Try.prog w = .halt (.panic (.iface 15 (.pointer (some ⟨w.heap.size, 0, none⟩)))) (w.alloc (tae x (typeHandle Try.prog t))) := by
  simp [Instr.typeAssert, run_underlying Try.underlying44, runtimePanic, goPanic, elemOf, run_underlying Try.underlying15, go_sem, tae, ht]
theorem bare_bad (p : Pl) (h : p.isTr = false) : ∃ o : TypeId → Obj, ∀ (x : TypeId) (w : World), (Instr.typeAssert p.val x 44 false).run Try.prog w = .halt (.panic (.iface 15 (.pointer (some ⟨w.heap.size, 0, none⟩)))) (w.alloc (o x)) := by
  cases p with
  | no => exact ⟨_, fun x w => bare_nil x w⟩
  | num => exact ⟨_, fun x w => bare_miss _ (by decide) _ x w⟩
  | tr o a b n => cases h
  | sa a b => exact ⟨_, fun x w => bare_miss _ (by decide) _ x w⟩
  | de o a n => exact ⟨_, fun x w => bare_miss _ (by decide) _ x w⟩
set_option maxRecDepth 100000 in
theorem mustT_bad (p : Pl) (h : p.isTr = false) (w : World) :
    Calls Try.prog 38 #[p.val] w fun e w' => (∃ pv, e = .panicked [{ v := .iface 15 pv, recovered := false }]) ∧ Below w.heap.size w w' := by
  obtain ⟨o, ho⟩ := bare_bad p h
  generalize p.val = V at *
  go_enter Try.func38, Try.ntmps38
  go_wp2
  exact ⟨rfl, ⟨_, rfl⟩, bel2 w _ _⟩
set_option maxRecDepth 100000 in
theorem must_bad (p : Pl) (h : p.isTr = false) (w : World) :
    Calls Try.prog 19 #[p.val] w fun e w' => (∃ pv, e = .panicked [{ v := .iface 15 pv, recovered := false }]) ∧ Below w.heap.size w w' := by
  have k := hide fun W => mustT_bad p h W
  generalize p.val = V at *
  have hb0 := (Below.refl w.heap.size w).alloc (Nat.le_refl _) (.cells #[.int .u32 0, .string (str []), .string (str []), .int .u64 0] 44)
  go_enter Try.func19, Try.ntmps19
  go_wp2_with fail
  refine (unhide k _).mono ?_
  rintro e w1 ⟨⟨pv, rfl⟩, b1⟩
  exact ⟨rfl, ⟨_, rfl⟩, hb0.trans (b1.mono (by simp))⟩
set_option maxRecDepth 100000 in
theorem mustT_good (o : Nat) (a b : List UInt8) (n : Nat) (w : World) :
    Calls Try.prog 38 #[(Pl.tr o a b n).val] w fun e w' => e = .returned (.agg (trCells o a b n)) ∧ Below w.heap.size w w' := by
  have ho := bare_hit (.agg (trCells o a b n))
  unfold Pl.val
  unfold trCells at *
  go_enter Try.func38, Try.ntmps38
  go_wp2
  exact bodyPost_ret (results_cell_row rfl _ _ w.heap.size _ _ _ _ rfl (al1 w _) Try.underlying44 rfl (by kernel_rfl)) rfl ⟨rfl, (Below.refl _ w).alloc (Nat.le_refl _) _⟩
set_option maxRecDepth 100000 in
theorem catch_panicking (p : Addr) (u : TypeId) (pv : Value) (older : List PanicEntry) (w : World) (hc : w.cell? p = some (.bool false)) (hz : w.frozen? p = false) :
    CallsD Try.prog 37 #[.pointer (some p)] (.panicking ({ v := .iface u pv, recovered := false } :: older)) w fun e u' w' =>
      e = .returned (.tuple #[]) ∧ u' = .panicking ({ v := .iface u pv, recovered := true } :: older) ∧ w' = w.setCell p (.bool true) := by
  refine callsD_of_wpS Try.func37 rfl fun c₀ cs hu => ?_
  apply wpS_region
  simp [wpOpsS, go_sem, recoverD, hu, Try.ntmps37, Exit.thenS, hc, hz, bodyPostS, results, Try.results37]
set_option maxRecDepth 100000 in
theorem catch_idle (p : Addr) (w : World) (hc : w.cell? p = some (.bool false)) (hz : w.frozen? p = false) :
    CallsD Try.prog 37 #[.pointer (some p)] .returning w fun e u' w' => e = .returned (.tuple #[]) ∧ u' = .returning ∧ w' = w.setCell p (.bool false) := by
  refine callsD_of_wpS Try.func37 rfl fun c₀ cs hu => ?_
  apply wpS_region
  simp [wpOpsS, go_sem, recoverD, hu, Try.ntmps37, Exit.thenS, hc, hz, bodyPostS, results, Try.results37]
  cases c₀
  simp_all
set_option maxRecDepth 100000 in
theorem panics_bad (p : Pl) (h : p.isTr = false) (w : World) :
    Calls Try.prog 18 #[p.val] w fun e w' => e = .returned (.bool true) ∧ Below w.heap.size w w' := by
  have hmf : ∀ (fn : Fn) (first cap : Array Value) (w : World), (Instr.makeFunc fn first cap).run Try.prog w = .ok (.func fn first cap) w := fun _ _ _ _ => rfl
  have k := hide fun W => must_bad p h W
  generalize p.val = V at *
  go_enter_defers Try.func18, Try.ntmps18
  go_wp2_with fail
  refine (unhide k _).mono ?_
  rintro e w1 ⟨⟨pv, rfl⟩, b1⟩
  obtain ⟨c1, f1, z1, -⟩ := alloc_kept b1
  have hb1 := ((Below.refl w.heap.size w).alloc (Nat.le_refl _) (.cells #[.bool false] 4)).trans (b1.mono (by simp))
  have c0 := c1 0
  have f0 := f1 0
  simp only [List.getElem?_toArray, List.getElem?_cons_zero] at c0
  refine leaves_cons (f := 37) (args := #[.pointer (some ⟨w.heap.size, 0, none⟩)]) (by simp) (by simp [go_sem]) ?_
  refine (catch_panicking ⟨w.heap.size, 0, none⟩ 15 pv [] _ c0 f0).mono ?_
  rintro e u' w'' ⟨rfl, rfl, rfl⟩
  have hb2 := hb1.setCell (p := ⟨w.heap.size, 0, none⟩) (Nat.le_refl _) (.bool true)
  simp [Leaves, settle, results, Try.results18, go_sem, c0]
  exact hb2
set_option maxRecDepth 100000 in
theorem must_good (o : Nat) (a b : List UInt8) (n : Nat) (w : World) :
    Calls Try.prog 19 #[(Pl.tr o a b n).val] w fun e w' => e = .returned (.agg (trCells o a b n)) ∧ Below w.heap.size w w' := by
  have k := hide fun W => mustT_good o a b n W
  have hb0 := (Below.refl w.heap.size w).alloc (Nat.le_refl _) (.cells (trCells 0 [] [] 0) 44)
  have q0 := al1 w (.cells (trCells 0 [] [] 0) 44)
  have z0 : w.heap.size < (w.alloc (.cells (trCells 0 [] [] 0) 44)).heap.size := by simp
  have hi : (Try.prog.info? 44).map (·.size) = some (trCells o a b n).size := (show (Try.prog.info? 44).map (·.size) = some 4 by kernel_rfl)
  have hsz : Hid ((trCells o a b n).size = (trCells 0 [] [] 0).size) := rfl
  have ho : (trCells o a b n).all (·.oneCell') = true := by simp [trCells, Value.oneCell']
  generalize (Pl.tr o a b n).val = V at *
  generalize trCells o a b n = C at *
  go_enter Try.func19, Try.ntmps19
  go_wp2_with fail
  refine (unhide k _).mono ?_
  rintro e w1 ⟨rfl, b1⟩
  have q1 := Below.at b1 z0 q0
  have hb1 := hb0.trans (b1.mono hb0.size)
  go_wp2_with (refine wpList_store_row rfl 44 (.tmp 2) (.tmp 4) rfl w.heap.size C rfl rfl 44 _ q1 hi (unhide hsz).symm ho ?_)
  exact bodyPost_ret (results_cell_row rfl _ _ w.heap.size _ _ _ _ rfl (setRow_heap _ _ _ _ _ _ q1) Try.underlying44 rfl hi) rfl ⟨rfl, below_setRow hb1 (Nat.le_refl _) _⟩
set_option maxRecDepth 100000 in
theorem panics_good (o : Nat) (a b : List UInt8) (n : Nat) (w : World) :
    Calls Try.prog 18 #[(Pl.tr o a b n).val] w fun e w' => e = .returned (.bool false) ∧ Below w.heap.size w w' := by
  have hmf : ∀ (fn : Fn) (first cap : Array Value) (w : World), (Instr.makeFunc fn first cap).run Try.prog w = .ok (.func fn first cap) w := fun _ _ _ _ => rfl
  have k := hide fun W => must_good o a b n W
  generalize (Pl.tr o a b n).val = V at *
  generalize trCells o a b n = C at *
  go_enter_defers Try.func18, Try.ntmps18
  go_wp2_with fail
  refine (unhide k _).mono ?_
  rintro e w1 ⟨rfl, b1⟩
  obtain ⟨c1, f1, z1, -⟩ := alloc_kept b1
  have hb1 := ((Below.refl w.heap.size w).alloc (Nat.le_refl _) (.cells #[.bool false] 4)).trans (b1.mono (by simp))
  have c0 := c1 0
  have f0 := f1 0
  simp only [List.getElem?_toArray, List.getElem?_cons_zero] at c0
  have hb2 := hb1.setCell (p := ⟨w.heap.size, 0, none⟩) (Nat.le_refl _) (.bool false)
  go_wp2_with fail
  refine leaves_cons (f := 37) (args := #[.pointer (some ⟨w.heap.size, 0, none⟩)]) (by simp) (by simp [go_sem]) ?_
  refine (catch_idle ⟨w.heap.size, 0, none⟩ _ (World.cell?_setCell_same _ _ _ c0) (by simpa using f0)).mono ?_
  rintro e u' w'' ⟨rfl, rfl, rfl⟩
  have hb3 := hb2.setCell (p := ⟨w.heap.size, 0, none⟩) (Nat.le_refl _) (.bool false)
  simp [Leaves, settle, results, Try.results18, go_sem, c0]
  exact hb3
end Go.Proofs.Ytlanplknendmaaa
