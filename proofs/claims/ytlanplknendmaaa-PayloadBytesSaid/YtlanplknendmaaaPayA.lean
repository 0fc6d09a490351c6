/-
  WHAT package payload's Tag AND Right RETURN; TYPE ASSERTIONS.
-/
import Derived.Test.YtlanplknendmaaaPayP
import Derived.Test.YtlanplknendmaaaQuietTail
import Derived.Test.YtlanplknendmaaaKitEq
import Derived.Deep.QuietTactic
import Derived.BigQuiet
namespace Go.Proofs.Ytlanplknendmaaa
open Go.RowKit
set_option linter.unusedSimpArgs false
set_option linter.unusedVariables false

theorem as_hit_tr (v : Value) (x : TypeId) (w : World) : (Instr.typeAssert (.iface 44 v) x 44 true).run Try.prog w = .ok (.tuple #[v, .bool true]) w := by
  simp [Instr.typeAssert, run_underlying Try.underlying44, go_sem]
theorem as_nil_tr (x : TypeId) (w : World) : (Instr.typeAssert .nilIface x 44 true).run Try.prog w = .ok (.tuple #[.agg (trCells 0 [] [] 0), .bool false]) w := by
  simp [Instr.typeAssert, run_underlying Try.underlying44, go_sem]
  rfl
theorem as_miss_tr (t : TypeId) (ht : t ≠ 44) (v : Value) (x : TypeId) (w : World) : (Instr.typeAssert (.iface t v) x 44 true).run Try.prog w = .ok (.tuple #[.agg (trCells 0 [] [] 0), .bool false]) w := by
  simp [Instr.typeAssert, run_underlying Try.underlying44, go_sem, ht]
  rfl
theorem as_hit_sa (v : Value) (x : TypeId) (w : World) : (Instr.typeAssert (.iface 51 v) x 51 true).run Try.prog w = .ok (.tuple #[v, .bool true]) w := by
  simp [Instr.typeAssert, run_underlying Try.underlying51, go_sem]
theorem as_nil_sa (x : TypeId) (w : World) : (Instr.typeAssert .nilIface x 51 true).run Try.prog w = .ok (.tuple #[.agg (saCells [] []), .bool false]) w := by
  simp [Instr.typeAssert, run_underlying Try.underlying51, go_sem]
  rfl
theorem as_miss_sa (t : TypeId) (ht : t ≠ 51) (v : Value) (x : TypeId) (w : World) : (Instr.typeAssert (.iface t v) x 51 true).run Try.prog w = .ok (.tuple #[.agg (saCells [] []), .bool false]) w := by
  simp [Instr.typeAssert, run_underlying Try.underlying51, go_sem, ht]
  rfl
theorem as_hit_de (v : Value) (x : TypeId) (w : World) : (Instr.typeAssert (.iface 53 v) x 53 true).run Try.prog w = .ok (.tuple #[v, .bool true]) w := by
  simp [Instr.typeAssert, run_underlying Try.underlying53, go_sem]
theorem as_nil_de (x : TypeId) (w : World) : (Instr.typeAssert .nilIface x 53 true).run Try.prog w = .ok (.tuple #[.agg (deCells 0 [] 0), .bool false]) w := by
  simp [Instr.typeAssert, run_underlying Try.underlying53, go_sem]
  rfl
theorem as_miss_de (t : TypeId) (ht : t ≠ 53) (v : Value) (x : TypeId) (w : World) : (Instr.typeAssert (.iface t v) x 53 true).run Try.prog w = .ok (.tuple #[.agg (deCells 0 [] 0), .bool false]) w := by
  simp [Instr.typeAssert, run_underlying Try.underlying53, go_sem, ht]
  rfl
def Pl.trC : Pl → Array Value
  | .tr o a b n => trCells o a b n
  | _ => trCells 0 [] [] 0
def Pl.isTr : Pl → Bool
  | .tr .. => true
  | _ => false
def Pl.saC : Pl → Array Value
  | .sa a b => saCells a b
  | _ => saCells [] []
def Pl.isSa : Pl → Bool
  | .sa .. => true
  | _ => false
def Pl.deC : Pl → Array Value
  | .de o a n => deCells o a n
  | _ => deCells 0 [] 0
def Pl.isDe : Pl → Bool
  | .de .. => true
  | _ => false
theorem as_tr (p : Pl) (x : TypeId) (w : World) : (Instr.typeAssert p.val x 44 true).run Try.prog w = .ok (.tuple #[.agg p.trC, .bool p.isTr]) w := by
  cases p with
  | no => exact as_nil_tr x w
  | num => exact as_miss_tr _ (by decide) _ x w
  | tr o a b n => exact as_hit_tr _ x w
  | sa a b => exact as_miss_tr _ (by decide) _ x w
  | de o a n => exact as_miss_tr _ (by decide) _ x w
theorem as_sa (p : Pl) (x : TypeId) (w : World) : (Instr.typeAssert p.val x 51 true).run Try.prog w = .ok (.tuple #[.agg p.saC, .bool p.isSa]) w := by
  cases p with
  | no => exact as_nil_sa x w
  | num => exact as_miss_sa _ (by decide) _ x w
  | tr o a b n => exact as_miss_sa _ (by decide) _ x w
  | sa a b => exact as_hit_sa _ x w
  | de o a n => exact as_miss_sa _ (by decide) _ x w
theorem as_de (p : Pl) (x : TypeId) (w : World) : (Instr.typeAssert p.val x 53 true).run Try.prog w = .ok (.tuple #[.agg p.deC, .bool p.isDe]) w := by
  cases p with
  | no => exact as_nil_de x w
  | num => exact as_miss_de _ (by decide) _ x w
  | tr o a b n => exact as_miss_de _ (by decide) _ x w
  | sa a b => exact as_miss_de _ (by decide) _ x w
  | de o a n => exact as_hit_de _ x w
set_option maxRecDepth 100000 in
theorem tag_calls (p : Pl) (w : World) :
    Calls Try.prog 21 #[p.val] w fun e w' => e = .returned (.int .i64 (p.tag : Int)) ∧ w' = w := by
  have h1 := as_tr p
  have h2 := as_sa p
  have h3 := as_de p
  generalize p.trC = C1 at *
  generalize p.saC = C2 at *
  generalize p.deC = C3 at *
  generalize hV : p.val = V at *
  cases p
  · simp only [Pl.isTr, Pl.isSa, Pl.isDe, Pl.tag] at *
    clear hV
    go_enter Try.func21, Try.ntmps21
    go_wp2
    go_ret
    exact ⟨rfl, rfl⟩
  · simp only [Pl.isTr, Pl.isSa, Pl.isDe, Pl.tag] at *
    clear hV
    go_enter Try.func21, Try.ntmps21
    go_wp2
    go_ret
    exact ⟨rfl, rfl⟩
  · simp only [Pl.isTr, Pl.isSa, Pl.isDe, Pl.tag] at *
    clear hV
    go_enter Try.func21, Try.ntmps21
    go_wp2
    go_ret
    exact ⟨rfl, rfl⟩
  · simp only [Pl.isTr, Pl.isSa, Pl.isDe, Pl.tag] at *
    clear hV
    go_enter Try.func21, Try.ntmps21
    go_wp2
    go_ret
    exact ⟨rfl, rfl⟩
  · simp only [Pl.isTr, Pl.isSa, Pl.isDe, Pl.tag] at *
    clear hV
    go_enter Try.func21, Try.ntmps21
    go_wp2
    go_ret
    exact ⟨rfl, rfl⟩
end Go.Proofs.Ytlanplknendmaaa
