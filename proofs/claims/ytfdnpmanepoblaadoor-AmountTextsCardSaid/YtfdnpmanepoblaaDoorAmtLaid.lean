/-
  WHAT THE ROW OF AmountTexts LISTS GIVES THE WALK: the table of tens, the two errors of strconv; a world for the witness.
-/
import Derived.Test.YtfdnpmanepoblaaDoorLawAmountTexts
import Derived.Test.YtfdnpmanepoblaaDoorRows
import Derived.ProofKit
import Derived.OpenShut
import Derived.Deep.DeepHandedRow
import Derived.Lib.LaidTab
import Derived.LaidSub
import Derived.LaidLaws
namespace Go.Proofs.YtfdnpmanepoblaaDoor
open Go.ChangeShapes Go.WideShapes Go.ChangeAt Go.RowKit Go.Shelf

theorem gPow : Tryd.prog.globalNamed "internal/strconv.uint64pow10" = some 4 := by kernel_rfl
theorem gPowType : (Tryd.prog.globals[4]?).map (·.type) = some 60 := by kernel_rfl
theorem cellsPow : Tryd.prog.cellsOf 60 = 20 := by kernel_rfl
theorem cellsU64 : Tryd.prog.cellsOf 22 = 1 := by kernel_rfl
theorem pow10_of {W : World} {laid : List (String × DataW Unit)} (h : laidMetH Tryd.prog laid W) (e : laid.filter (fun x => x.1 == "internal/strconv.uint64pow10") = [("internal/strconv.uint64pow10", Rows.laid_internal_strconv_uint64pow10)]) : Pow10 W := by
  have hf := laidMetH.filter (l := laid) (fun x => x.1 == "internal/strconv.uint64pow10") h
  rw [e] at hf
  exact Lib.tabIs_of_head (zs := Lib.pow10Tab) (rest := []) gPow gPowType Tryd.underlying60 Tryd.underlying22 cellsU64 cellsPow hf
/-- A variable's cells turned. -/
def layCellsN (cs : Array Value) : Obj → Obj
  | .cells _ t frozen => .cells cs t frozen
  | o => o
def tab32Cells : Array Value := #[.int .u8 0, .int .u8 1, .int .u8 28, .int .u8 2, .int .u8 29, .int .u8 14, .int .u8 24, .int .u8 3, .int .u8 30, .int .u8 22, .int .u8 20, .int .u8 15, .int .u8 25, .int .u8 17, .int .u8 4, .int .u8 8, .int .u8 31, .int .u8 27, .int .u8 13, .int .u8 23, .int .u8 21, .int .u8 19, .int .u8 16, .int .u8 7, .int .u8 26, .int .u8 12, .int .u8 18, .int .u8 6, .int .u8 11, .int .u8 5, .int .u8 10, .int .u8 9]
def tab64Cells : Array Value := #[.int .u8 0, .int .u8 1, .int .u8 56, .int .u8 2, .int .u8 57, .int .u8 49, .int .u8 28, .int .u8 3, .int .u8 61, .int .u8 58, .int .u8 42, .int .u8 50, .int .u8 38, .int .u8 29, .int .u8 17, .int .u8 4, .int .u8 62, .int .u8 47, .int .u8 59, .int .u8 36, .int .u8 45, .int .u8 43, .int .u8 51, .int .u8 22, .int .u8 53, .int .u8 39, .int .u8 33, .int .u8 30, .int .u8 24, .int .u8 18, .int .u8 12, .int .u8 5, .int .u8 63, .int .u8 55, .int .u8 48, .int .u8 27, .int .u8 60, .int .u8 41, .int .u8 37, .int .u8 16, .int .u8 46, .int .u8 35, .int .u8 44, .int .u8 21, .int .u8 52, .int .u8 32, .int .u8 23, .int .u8 11, .int .u8 54, .int .u8 26, .int .u8 40, .int .u8 15, .int .u8 34, .int .u8 20, .int .u8 31, .int .u8 10, .int .u8 25, .int .u8 14, .int .u8 19, .int .u8 9, .int .u8 13, .int .u8 8, .int .u8 7, .int .u8 6]
def pow10Cells : Array Value := #[.int .u64 1, .int .u64 10, .int .u64 100, .int .u64 1000, .int .u64 10000, .int .u64 100000, .int .u64 1000000, .int .u64 10000000, .int .u64 100000000, .int .u64 1000000000, .int .u64 10000000000, .int .u64 100000000000, .int .u64 1000000000000, .int .u64 10000000000000, .int .u64 100000000000000, .int .u64 1000000000000000, .int .u64 10000000000000000, .int .u64 100000000000000000, .int .u64 1000000000000000000, .int .u64 10000000000000000000]
theorem gErrS : Tryd.prog.globalNamed "strconv.ErrSyntax" = some 2 := by kernel_rfl
theorem gErrR : Tryd.prog.globalNamed "strconv.ErrRange" = some 3 := by kernel_rfl
theorem gErrSType : (Tryd.prog.globals[2]?).map (·.type) = some 34 := by kernel_rfl
theorem gErrRType : (Tryd.prog.globals[3]?).map (·.type) = some 34 := by kernel_rfl
theorem err_cell {W : World} {nm s : String} {d : DataW Unit} {g : Nat} (hg : Tryd.prog.globalNamed nm = some g) (hty : (Tryd.prog.globals[g]?).map (·.type) = some 34)
    (h : laidMet Tryd.prog [(nm, .iface s d)] W) : ∃ ev, W.cell? ⟨g, 0, none⟩ = some ev ∧ (ev = .nilIface ∨ ∃ te pe, ev = .iface te pe) := by
  obtain ⟨ps, ⟨g', t', cs, fuel, p, q, hg', ht', hvar, hd, _, _⟩, _⟩ := h
  obtain rfl := Option.some.inj (hg.symm.trans hg')
  obtain rfl := Option.some.inj (hty.symm.trans ht')
  obtain ⟨l⟩ := cs
  obtain ⟨_, u, v, rfl, _, _⟩ := iface_of_trod Tryd.underlying34 hd
  refine ⟨.iface u v, ?_, .inr ⟨u, v, rfl⟩⟩
  simpa using World.var?_cell hg hvar 0
theorem errs_of {W : World} {laid : List (String × DataW Unit)} (h : laidMetH Tryd.prog laid W)
    (e1 : laid.filter (fun x => x.1 == "strconv.ErrSyntax") = [("strconv.ErrSyntax", Rows.laid_strconv_ErrSyntax)])
    (e2 : laid.filter (fun x => x.1 == "strconv.ErrRange") = [("strconv.ErrRange", Rows.laid_strconv_ErrRange)]) : Errs W := by
  have h1 := laidMetH.filter (l := laid) (fun x => x.1 == "strconv.ErrSyntax") h
  have h2 := laidMetH.filter (l := laid) (fun x => x.1 == "strconv.ErrRange") h
  rw [e1] at h1
  rw [e2] at h2
  exact ⟨err_cell gErrS gErrSType h1, err_cell gErrR gErrRType h2⟩
/-- A world for the witness: the settled one, the three tables and the two errors holding what their initialisers lay. -/
noncomputable def lowN : Nat := (World.holding Tryd.prog default ⟨#[], #[], []⟩).heap.size
noncomputable def amtWorld (os : Os) : World :=
  let w0 := World.holding Tryd.prog os ⟨#[.cells #[.string ⟨#[118, 97, 108, 117, 101, 32, 111, 117, 116, 32, 111, 102, 32, 114, 97, 110, 103, 101]⟩] 68, .cells #[.string ⟨#[105, 110, 118, 97, 108, 105, 100, 32, 115, 121, 110, 116, 97, 120]⟩] 68], #[], []⟩
  { w0 with heap := ((((w0.heap.modify 5 (layCellsN tab32Cells)).modify 6 (layCellsN tab64Cells)).modify 4 (layCellsN pow10Cells)).modify 3 (layCellsN #[.iface 66 (.pointer (some ⟨lowN, 0, none⟩))])).modify 2 (layCellsN #[.iface 66 (.pointer (some ⟨lowN + 1, 0, none⟩))]) }
end Go.Proofs.YtfdnpmanepoblaaDoor
