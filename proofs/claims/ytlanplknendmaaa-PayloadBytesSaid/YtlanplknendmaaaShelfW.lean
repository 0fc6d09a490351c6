/-
  THE LIBRARY'S CONTRACT OF strings.Builder's WriteString AT THIS SEAT'S NUMBERS; a builder behind calls that leave it.
-/
import Derived.Test.YtlanplknendmaaaShelfB
import Derived.Test.YtlanplknendmaaaStrP
namespace Go.Proofs
open Go.Shelf
namespace Ytlanplknendmaaa
open Go.RowKit
theorem builder_below {T e : TypeId} {B b : Nat} {p : Value} {bs : List Value} {w w' : World} (h : Lib.BuilderAtF T e B b p bs w) (hb : Below w.heap.size w w') : Lib.BuilderAtF T e B b p bs w' := by
  obtain ⟨hB, v, hv, ⟨h1, h2⟩, hne⟩ := h
  have lt : ∀ k o, w.heap[k]? = some o → k < w.heap.size := fun k o ho => (Array.getElem?_eq_some_iff.1 ho).1
  refine ⟨hB, v, (hb.block b (lt _ _ hv)).trans hv, ⟨h1, ?_⟩, hne⟩
  rcases h2 with h2 | ⟨g, cap, cur, fz, rfl, hg, hh, hrest⟩
  · exact .inl h2
  · exact .inr ⟨g, cap, cur, fz, rfl, hg, (hb.block g (lt _ _ hh)).trans hh, hrest⟩
theorem isBuilder_below {T e : TypeId} {B b : Nat} {bs : List Value} {w w' : World} (h : Lib.IsBuilderF T e B b bs w) (hb : Below w.heap.size w w') : Lib.IsBuilderF T e B b bs w' :=
  h.elim (fun h => .inl (builder_below h hb)) (fun h => .inr (builder_below h hb))
end Ytlanplknendmaaa
end Go.Proofs
