/-
  WIDE NUMBERS AS ARGUMENTS: what a row hands the walks.
-/
import Derived.Test.YtfdnpmanepoblaaAmtC
import Derived.ProofKit
import Derived.OpenShut
import Derived.Lib.SmallJoins
import Derived.ChangeMaps5
namespace Go.Proofs.Ytfdnpmanepoblaa
open Go.ChangeShapes Go.WideShapes Go.ChangeAt Go.RowKit
set_option linter.unusedVariables false

theorem open_wide {H : Type} {enc : TypeId × Value → H} {W : World} {base : Nat} {sp : Nat → Bool} {held : Bool} {cs : Array Value} (hn : cs.size = 2) {d : DataW H} {ps : List MemPlace} (hd : DataW.Trod enc Try.prog W base sp held 25 (.agg cs) d ps) :
    ∃ n : Nat, n < wmax ∧ cs = wv n := by
  obtain ⟨fuel, hf⟩ := hd
  have h3 : Try.prog.cellsOf 23 = 1 := by kernel_rfl
  match cs, hn with
  | ⟨[c0, c1]⟩, _ =>
    obtain ⟨y0, y1, n, hx, hl, h0, h1⟩ := trod_struct2 Try.underlying25 hf
    simp only [h3, Value.cells, List.drop_zero, List.take_succ_cons, List.take_zero, List.drop_succ_cons] at h0 h1
    obtain ⟨a, ha, _, hw⟩ := DataW.trod_int Try.underlying23 h0
    obtain ⟨b, hb, _, hv⟩ := DataW.trod_int Try.underlying23 h1
    simp only [List.cons.injEq, and_true] at ha hb
    subst ha hb
    simp [Lit.wf, IntKind.min, IntKind.max, IntKind.signed, IntKind.bits] at hw hv
    obtain ⟨a, rfl⟩ := Int.eq_ofNat_of_zero_le hw.1
    obtain ⟨b, rfl⟩ := Int.eq_ofNat_of_zero_le hv.1
    refine ⟨a * 18446744073709551616 + b, ?_, ?_⟩
    · unfold wmax; omega
    · rw [wv_eq a b (by omega)]
end Go.Proofs.Ytfdnpmanepoblaa
