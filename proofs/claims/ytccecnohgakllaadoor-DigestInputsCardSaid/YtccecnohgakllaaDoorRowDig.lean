/-
  A DIGEST AS THE ARGUMENT OF A ROW.
-/
import Derived.Test.YtccecnohgakllaaDoorRowNum
import Derived.Deep.Slices
import Derived.Lib.SmallJoins
namespace Go.Proofs.YtccecnohgakllaaDoor
open Go.ChangeShapes Go.WideShapes Go.ChangeAt Go.RowKit
set_option linter.unusedVariables false

theorem arrD : WideMaps.ArrKey Tryd.prog 24 5 32 := ⟨Tryd.underlying24, by kernel_rfl, by kernel_rfl, by kernel_rfl⟩
theorem open_digest {H : Type} {enc : TypeId × Value → H} {W : World} {base : Nat} {sp : Nat → Bool} {held : Bool} {xs : Array Value} (hn : xs.size = 32) {d : DataW H} {ps : List MemPlace} (hd : DataW.Trod enc Tryd.prog W base sp held 24 (.agg xs) d ps) :
    ∃ l : List UInt8, xs = bc l ∧ l.length = 32 := by
  obtain ⟨zs, hl, rfl, hw⟩ := open_numbers arrD Tryd.underlying5 hn hd
  have e : ∀ z ∈ zs, ((UInt8.ofNat z.toNat).toNat : Int) = z := fun z hz => by
    have := hw z hz
    simp [Lit.wf, IntKind.min, IntKind.max, IntKind.signed, IntKind.bits] at this
    rw [UInt8.toNat_ofNat']; omega
  refine ⟨zs.map fun z => UInt8.ofNat z.toNat, ?_, by simpa using hl⟩
  unfold bc Lib.byteCells
  rw [List.map_map]
  congr 1
  apply List.map_congr_left
  intro z hz
  simp only [Function.comp_apply]
  rw [e z hz]
end Go.Proofs.YtccecnohgakllaaDoor
