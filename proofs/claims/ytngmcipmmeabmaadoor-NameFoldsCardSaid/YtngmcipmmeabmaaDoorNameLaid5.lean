/-
  WHAT THE ROWS OF LAYER 2 THAT DECODE RUNES LIST GIVES THE WALKS: the two tables of package utf8, too; a world for the witness.
-/
import Derived.Test.YtngmcipmmeabmaaDoorNameLaid
import Derived.Test.YtngmcipmmeabmaaDoorNameOrder
import Derived.Lib.LaidU8
namespace Go.Proofs.YtngmcipmmeabmaaDoor
open Go.ChangeShapes Go.WideShapes Go.ChangeAt Go.RowKit Go.Shelf

theorem u8Extra : U8Extra Tryd.prog Tryd.lays197_ren := ⟨by kernel_rfl, by kernel_rfl, by kernel_rfl, by kernel_rfl, by kernel_rfl, by kernel_rfl, by kernel_rfl⟩
set_option maxRecDepth 100000 in
theorem first_data : Rows.laid_unicode_utf8_first = Lib.firstData := by kernel_rfl
theorem accept_data : (Rows.laid_unicode_utf8_acceptRanges : DataW Unit) = Lib.acceptData := by kernel_rfl
theorem utabs_of {W : World} {laid : List (String × DataW Unit)} (h : laidMet Tryd.prog laid W) (h1 : ("unicode/utf8.first", Rows.laid_unicode_utf8_first) ∈ laid) (h2 : ("unicode/utf8.acceptRanges", Rows.laid_unicode_utf8_acceptRanges) ∈ laid) : UTabs W := by
  have r1 := Lib.laidMet.reads h h1
  have r2 := Lib.laidMet.reads h h2
  rw [first_data] at r1
  rw [accept_data] at r2
  exact utf8Tabs_of_reads { Tryd.lays197 with } u8Extra r1 r2
/-- A world for the witness: the settled one, the five tables holding what their initialisers lay. -/
noncomputable def nameWorld5 (os : Os) : World :=
  { nameWorld os with heap := ((nameWorld os).heap.modify 1 (layCellsN (Lib.firstTab.map fun z => Value.int .u8 z).toArray)).modify 2 (layCellsN ((List.range 16).flatMap fun i => [Value.int .u8 (Lib.accLo i), Value.int .u8 (Lib.accHi i)]).toArray) }
end Go.Proofs.YtngmcipmmeabmaaDoor
