/-
  WHAT THE ROWS OF LAYER 2 THAT READ QUOTES LIST GIVES THE WALKS: the two errors of strconv, too; a world for the witness.
-/
import Derived.Test.YtdkcgiifldhdeaaDoorNameLaid
import Derived.Test.YtdkcgiifldhdeaaDoorParseU
import Derived.LaidLaws
namespace Go.Proofs.YtdkcgiifldhdeaaDoor
open Go.ChangeShapes Go.WideShapes Go.ChangeAt Go.RowKit Go.Shelf

theorem gErrS : Tryd.prog.globalNamed "strconv.ErrSyntax" = some 4 := by kernel_rfl
theorem gErrR : Tryd.prog.globalNamed "strconv.ErrRange" = some 5 := by kernel_rfl
theorem gErrSType : (Tryd.prog.globals[4]?).map (·.type) = some 44 := by kernel_rfl
theorem gErrRType : (Tryd.prog.globals[5]?).map (·.type) = some 44 := by kernel_rfl
theorem err_cell {W : World} {nm s : String} {d : DataW Unit} {g : Nat} (hg : Tryd.prog.globalNamed nm = some g) (hty : (Tryd.prog.globals[g]?).map (·.type) = some 44)
    (h : laidMet Tryd.prog [(nm, .iface s d)] W) : ∃ ev, W.cell? ⟨g, 0, none⟩ = some ev ∧ (ev = .nilIface ∨ ∃ te pe, ev = .iface te pe) := by
  obtain ⟨ps, ⟨g', t', cs, fuel, p, q, hg', ht', hvar, hd, _, _⟩, _⟩ := h
  obtain rfl := Option.some.inj (hg.symm.trans hg')
  obtain rfl := Option.some.inj (hty.symm.trans ht')
  obtain ⟨l⟩ := cs
  obtain ⟨_, u, v, rfl, _, _⟩ := iface_of_trod Tryd.underlying44 hd
  refine ⟨.iface u v, ?_, .inr ⟨u, v, rfl⟩⟩
  simpa using World.var?_cell hg hvar 0
theorem errs_of {W : World} {laid : List (String × DataW Unit)} (h : laidMetH Tryd.prog laid W)
    (e1 : laid.filter (fun x => x.1 == "strconv.ErrSyntax") = [("strconv.ErrSyntax", Rows.laid_strconv_ErrSyntax)])
    (e2 : laid.filter (fun x => x.1 == "strconv.ErrRange") = [("strconv.ErrRange", Rows.laid_strconv_ErrRange)]) : Errs W := by
  have h1 := laidMetH.filter (l := laid) (fun x => x.1 == "strconv.ErrSyntax") h
  have h2 := laidMetH.filter (l := laid) (fun x => x.1 == "strconv.ErrRange") h
  rw [e1] at h1
  rw [e2] at h2
  exact ⟨err_cell gErrS gErrSType h1, err_cell gErrR gErrRType h2⟩
/-- A world for the witness: the settled one, the three tables and the two errors holding what their initialisers lay. -/
noncomputable def lowN : Nat := (World.holding Tryd.prog default ⟨#[], #[], []⟩).heap.size
noncomputable def nameWorldE (os : Os) : World :=
  let w0 := World.holding Tryd.prog os ⟨#[.cells #[.string ⟨#[118, 97, 108, 117, 101, 32, 111, 117, 116, 32, 111, 102, 32, 114, 97, 110, 103, 101]⟩] 99, .cells #[.string ⟨#[105, 110, 118, 97, 108, 105, 100, 32, 115, 121, 110, 116, 97, 120]⟩] 99], #[], []⟩
  { w0 with heap := ((((w0.heap.modify 6 (layCellsN tab32Cells)).modify 7 (layCellsN tab64Cells)).modify 2 (layCellsN pow10Cells)).modify 5 (layCellsN #[.iface 97 (.pointer (some ⟨lowN, 0, none⟩))])).modify 4 (layCellsN #[.iface 97 (.pointer (some ⟨lowN + 1, 0, none⟩))]) }
end Go.Proofs.YtdkcgiifldhdeaaDoor
