/-
  A NEW LOG; WHAT Count AND Clash RETURN.
-/
import Derived.Test.YtccecnohgakllaaDoorLogO
import Derived.BigQuiet
namespace Go.Proofs.YtccecnohgakllaaDoor
open Go Go.RowKit Go.Maps
set_option linter.unusedSimpArgs false
set_option linter.unusedVariables false

def dcount (ls : List Lit) : Nat := (ls.foldl addKey []).length
set_option maxHeartbeats 1000000 in
set_option maxRecDepth 100000 in
theorem newLog_calls (w : World) : Calls Tryd.prog 8 #[] w fun e w' => e = .returned (.pointer (some ⟨w.heap.size, 0, none⟩)) ∧ LogAt w' w.heap.size none [] ∧ Below w.heap.size w w' ∧ w'.heap.size = w.heap.size + 1 := by
  go_enter Tryd.func8, Tryd.ntmps8
  go_wp2
  go_ret
  exact ⟨rfl, ⟨rfl, al1 _ _⟩, (Below.refl _ _).alloc (Nat.le_refl _) _, by simp⟩
theorem isKey_s (s : List UInt8) : WideAt.IsKeyLit (Lit.string s) := by trivial
set_option maxHeartbeats 1000000 in
set_option maxRecDepth 100000 in
theorem count_calls (b : Nat) (m : Nat × Nat) (ins : List (List UInt8)) (w : World) (hL : LogAt w b (some m) ins) :
    Calls Tryd.prog 14 #[.pointer (some ⟨b, 0, none⟩)] w fun e w' => e = .returned (.int .i64 (dcount (ins.map Lit.string) : Int)) ∧ w' = w := by
  obtain ⟨l1, l2, l3, l4, l5, l6⟩ := hL
  have c0 : w.cell? ⟨b, 0, none⟩ = some (.map (some m.1)) := by rw [cell_of_row _ _ _ _ _ _ l1]; rfl
  have e1 : size (setOf u0 (ins.map Lit.string)) = dcount (ins.map Lit.string) := size_setOf u0 _ (fun x hx => by obtain ⟨s, _, rfl⟩ := List.mem_map.1 hx; exact isKey_s s)
  have hl := fun ty => l5.len Tryd.underlying47 ty
  rw [e1] at hl
  generalize dcount (ins.map Lit.string) = D at *
  clear l1 l2 l3 l4 l5 l6 e1
  go_enter Tryd.func14, Tryd.ntmps14
  go_wp2
  go_ret
  exact ⟨rfl, rfl⟩
theorem isKey_d (s : List UInt8) : WideAt.IsKeyLit (dKey (pSum [s])) := lawD.key (dKey_is _ (pSum_length _))
set_option maxHeartbeats 1000000 in
set_option maxRecDepth 100000 in
theorem clash_calls (b : Nat) (m : Nat × Nat) (ins : List (List UInt8)) (w : World) (hL : LogAt w b (some m) ins) :
    Calls Tryd.prog 15 #[.pointer (some ⟨b, 0, none⟩)] w fun e w' => e = .returned (.bool (decide (dcount (ins.map fun s => dKey (pSum [s])) < dcount (ins.map Lit.string)))) ∧ Below w.heap.size w w' := by
  obtain ⟨l1, l2, l3, l4, l5, l6⟩ := hL
  have c0 : ∀ dd os, (Sort.grow (redrawn w dd) os).cell? ⟨b, 0, none⟩ = some (.map (some m.1)) := fun dd os => by
    rw [cell_of_row _ _ _ _ _ _ (Below.at (below_regrown w dd os) (Array.getElem?_eq_some_iff.1 l1).1 l1)]; rfl
  have c1 : ∀ dd os, (Sort.grow (redrawn w dd) os).cell? ⟨b, 1, none⟩ = some (.map (some m.2)) := fun dd os => by
    rw [cell_of_row _ _ _ _ _ _ (Below.at (below_regrown w dd os) (Array.getElem?_eq_some_iff.1 l1).1 l1)]; rfl
  have e1 : size (setOf u0 (ins.map Lit.string)) = dcount (ins.map Lit.string) := size_setOf u0 _ (fun x hx => by obtain ⟨s, _, rfl⟩ := List.mem_map.1 hx; exact isKey_s s)
  have e2 : size (setOf u0 (ins.map fun s => dKey (pSum [s]))) = dcount (ins.map fun s => dKey (pSum [s])) := size_setOf u0 _ (fun x hx => by obtain ⟨s, _, rfl⟩ := List.mem_map.1 hx; exact isKey_d s)
  have k1 : ∀ dd os ty, (Builtin.len_ #[47] ty #[.map (some m.1)]).run Tryd.prog (Sort.grow (redrawn w dd) os) = .ok (.int .i64 (dcount (ins.map Lit.string))) (Sort.grow (redrawn w dd) os) := fun dd os ty => by
    rw [← e1]; exact (l5.kept (grown_of_below (below_regrown w dd os) none) (by simp)).len Tryd.underlying47 ty
  have k2 : ∀ dd os ty, (Builtin.len_ #[48] ty #[.map (some m.2)]).run Tryd.prog (Sort.grow (redrawn w dd) os) = .ok (.int .i64 (dcount (ins.map fun s => dKey (pSum [s])))) (Sort.grow (redrawn w dd) os) := fun dd os ty => by
    rw [← e2]; exact (l6.kept (grown_of_below (below_regrown w dd os) none) (by simp)).len Tryd.underlying48 ty
  generalize dcount (ins.map Lit.string) = D at *
  generalize dcount (ins.map fun s => dKey (pSum [s])) = E at *
  clear l1 l2 l3 l4 l5 l6 e1 e2
  go_enter Tryd.func15, Tryd.ntmps15
  go_wp2_with fail
  refine wp_region_below mixed (by kernel_rfl) ?_
  quiet_step (fail)
  quiet_step (fail)
  quiet_step (fail)
  quiet_step (fail)
  quiet_step (fail)
  quiet_step (fail)
  quiet_step (fail)
  quiet_step (fail)
  quiet_step (fail)
  quiet_step (fail)
  quiet_step (fail)
  quiet_step (fail)
  quiet_step (fail)
  quiet_step (fail)
  quiet_step (fail)
  quiet_step (fail)
  refine wpQuiet_nil ?_
  intro w2 b2
  go_wp2
  go_ret
  exact ⟨rfl, b2⟩
end Go.Proofs.YtccecnohgakllaaDoor
