/-
  A LETTER AS AN ARGUMENT: what a row hands the walks.
-/
import Derived.Test.YtefdlpddhkocbaaLetP
import Derived.Deep.Slices
import Derived.Lib.SmallJoins
import Derived.ChangeMaps5
namespace Go.Proofs.Ytefdlpddhkocbaa
open Go.ChangeShapes Go.WideShapes Go.ChangeAt Go.RowKit
set_option linter.unusedVariables false

theorem array6 {α : Type} {cs : Array α} (h : cs.size = 6) : ∃ c0 c1 c2 c3 c4 c5, cs = #[c0, c1, c2, c3, c4, c5] := by
  obtain ⟨l⟩ := cs
  match l, h with
  | [c0, c1, c2, c3, c4, c5], _ => exact ⟨c0, c1, c2, c3, c4, c5, rfl⟩
theorem trod_struct6 {P : Program} {H : Type} {enc : TypeId × Value → H} {w : World} {base : Nat} {spare : Nat → Bool} {held : Bool} {t : TypeId} {f0 f1 f2 f3 f4 f5 : Field} {fuel : Nat} {cs : List Value} {x : DataW H × List MemPlace} (ht : P.underlying t = some (.struct #[f0, f1, f2, f3, f4, f5])) (h : DataW.trod enc P w base spare held fuel t cs = some x) :
    ∃ y0 y1 y2 y3 y4 y5 n, DataW.trod enc P w base spare held n f0.type ((cs.drop f0.offset).take (P.cellsOf f0.type)) = some y0 ∧
      DataW.trod enc P w base spare held n f1.type ((cs.drop f1.offset).take (P.cellsOf f1.type)) = some y1 ∧ DataW.trod enc P w base spare held n f2.type ((cs.drop f2.offset).take (P.cellsOf f2.type)) = some y2 ∧
      DataW.trod enc P w base spare held n f3.type ((cs.drop f3.offset).take (P.cellsOf f3.type)) = some y3 ∧ DataW.trod enc P w base spare held n f4.type ((cs.drop f4.offset).take (P.cellsOf f4.type)) = some y4 ∧
      DataW.trod enc P w base spare held n f5.type ((cs.drop f5.offset).take (P.cellsOf f5.type)) = some y5 := by
  obtain ⟨xs, n, _, rfl, hl, hlen, hf⟩ := DataW.trod_struct ht h
  match xs, hlen with
  | [y0, y1, y2, y3, y4, y5], _ => exact ⟨y0, y1, y2, y3, y4, y5, n, by simpa using hf 0 f0 rfl, by simpa using hf 1 f1 rfl, by simpa using hf 2 f2 rfl, by simpa using hf 3 f3 rfl, by simpa using hf 4 f4 rfl, by simpa using hf 5 f5 rfl⟩
theorem open_letter {H : Type} {enc : TypeId × Value → H} {W : World} {base : Nat} {sp : Nat → Bool} {held : Bool} {cs : Array Value} (hn : cs.size = 6) {d : DataW H} {ps : List MemPlace} (hd : DataW.Trod enc Try.prog W base sp held 24 (.agg cs) d ps) :
    ∃ x : Lt, x.ok ∧ cs = x.cells ∧ x.se.length ≤ maxLen ∧ x.re.length ≤ maxLen ∧ x.bo.length ≤ maxLen := by
  obtain ⟨fuel, hf⟩ := hd
  have h3 : Try.prog.cellsOf 22 = 1 := by kernel_rfl
  have h4 : Try.prog.cellsOf 9 = 1 := by kernel_rfl
  obtain ⟨c0, c1, c2, c3, c4, c5, rfl⟩ := array6 hn
  obtain ⟨y0, y1, y2, y3, y4, y5, n, h0, h1, h2, g3, g4, g5⟩ := trod_struct6 Try.underlying24 hf
  simp only [h3, h4, Value.cells, List.drop_zero, List.take_succ_cons, List.take_zero, List.drop_succ_cons] at h0 h1 h2 g3 g4 g5
  obtain ⟨a, ha, _, hwa⟩ := DataW.trod_int Try.underlying22 h0
  obtain ⟨b, hb, _, hwb⟩ := DataW.trod_int Try.underlying22 h1
  obtain ⟨c, hc, _, hwc⟩ := DataW.trod_int Try.underlying22 h2
  obtain ⟨s, hs, _, hws⟩ := DataW.trod_string Try.underlying9 g3
  obtain ⟨r, hr, _, hwr⟩ := DataW.trod_string Try.underlying9 g4
  obtain ⟨o, ho, _, hwo⟩ := DataW.trod_string Try.underlying9 g5
  simp only [List.cons.injEq, and_true] at ha hb hc hs hr ho
  subst ha hb hc hs hr ho
  simp [Lit.wf, IntKind.min, IntKind.max, IntKind.signed, IntKind.bits] at hwa hwb hwc
  obtain ⟨a, rfl⟩ := Int.eq_ofNat_of_zero_le hwa.1
  obtain ⟨b, rfl⟩ := Int.eq_ofNat_of_zero_le hwb.1
  obtain ⟨c, rfl⟩ := Int.eq_ofNat_of_zero_le hwc.1
  refine ⟨⟨a, b, c, s.data.toList, r.data.toList, o.data.toList⟩, ⟨by show a < _; omega, by show b < _; omega, by show c < _; omega⟩, ?_, ?_, ?_, ?_⟩
  · simp only [Lt.cells, str_list]
  · rw [← str_list s, str_size] at hws; exact hws
  · rw [← str_list r, str_size] at hwr; exact hwr
  · rw [← str_list o, str_size] at hwo; exact hwo
end Go.Proofs.Ytefdlpddhkocbaa
