/-
  A STATE AS AN ARGUMENT: what a row hands the walks.
-/
import Derived.Test.YtfobcchiakjhgaaDoorRowKit
import Derived.Lib.SmallJoins
namespace Go.Proofs.YtfobcchiakjhgaaDoor
open Go.ChangeShapes Go.WideShapes Go.ChangeAt Go.RowKit

theorem open_state {H : Type} {enc : TypeId × Value → H} {W : World} {base : Nat} {sp : Nat → Bool} {held : Bool} {cs : Array Value} (hn : cs.size = 10) {d : DataW H} {ps : List MemPlace} (hd : DataW.Trod enc Tryd.prog W base sp held 37 (.agg cs) d ps) :
    ∃ st : St, cs = st.cells ∧ st.rest.length ≤ maxLen := by
  obtain ⟨fuel, hf⟩ := hd
  have h8 : Tryd.prog.cellsOf 23 = 8 := by kernel_rfl
  have h9 : Tryd.prog.cellsOf 9 = 1 := by kernel_rfl
  have h35 : Tryd.prog.cellsOf 35 = 1 := by kernel_rfl
  match cs, hn with
  | ⟨[c0, c1, c2, c3, c4, c5, c6, c7, c8, c9]⟩, _ =>
    obtain ⟨y0, y1, y2, n, hx, hl, h0, h1, h2⟩ := Go.Deep.trod_struct3 Tryd.underlying37 hf
    simp only [h8, h9, h35, Value.cells, List.drop_zero, List.take_succ_cons, List.take_zero, List.drop_succ_cons] at h0 h1 h2
    obtain ⟨st, hst⟩ := open_words (enc := enc) (W := W) (base := base) (sp := sp) (held := held) (xs := #[c0, c1, c2, c3, c4, c5, c6, c7]) rfl (d := y0.1) (ps := y0.2) ⟨n, h0⟩
    obtain ⟨s, hs, _, hsz⟩ := DataW.trod_string Tryd.underlying9 h1
    obtain ⟨a, ha, _, hw⟩ := DataW.trod_int Tryd.underlying35 h2
    obtain ⟨a0, a1, a2, a3, a4, a5, a6, a7⟩ := st
    simp only [S8.cells, S8.list, wc, List.map, Array.mk.injEq, List.cons.injEq, and_true] at hst hs ha
    obtain ⟨rfl, rfl, rfl, rfl, rfl, rfl, rfl, rfl⟩ := hst
    subst hs ha
    refine ⟨⟨⟨a0, a1, a2, a3, a4, a5, a6, a7⟩, s.data.toList, BitVec.ofNat 64 a.toNat⟩, ?_, by rw [size_list]; exact hsz⟩
    have e : ((BitVec.ofNat 64 a.toNat).toNat : Int) = a := by
      simp [Lit.wf, IntKind.min, IntKind.max, IntKind.signed, IntKind.bits] at hw
      rw [BitVec.toNat_ofNat]; omega
    simp only [St.cells, str_list, e]
end Go.Proofs.YtfobcchiakjhgaaDoor
