/-
  WHAT THE LAWS OF PAYLOADS ARE HANDED, AS AN ARGUMENT.
-/
import Derived.Test.YtlanplknendmaaaPayG
import Derived.Deep.Slices
import Derived.Lib.SmallJoins
import Derived.ChangeMaps5
namespace Go.Proofs.Ytlanplknendmaaa
open Go.ChangeShapes Go.WideShapes Go.ChangeAt Go.RowKit
set_option linter.unusedVariables false

theorem array5 {α : Type} {cs : Array α} (h : cs.size = 5) : ∃ c0 c1 c2 c3 c4, cs = #[c0, c1, c2, c3, c4] := by
  obtain ⟨l⟩ := cs
  match l, h with
  | [c0, c1, c2, c3, c4], _ => exact ⟨c0, c1, c2, c3, c4, rfl⟩
theorem trod_struct5 {P : Program} {H : Type} {enc : TypeId × Value → H} {w : World} {base : Nat} {spare : Nat → Bool} {held : Bool} {t : TypeId} {f0 f1 f2 f3 f4 : Field} {fuel : Nat} {cs : List Value} {x : DataW H × List MemPlace} (ht : P.underlying t = some (.struct #[f0, f1, f2, f3, f4])) (h : DataW.trod enc P w base spare held fuel t cs = some x) :
    ∃ y0 y1 y2 y3 y4 n, DataW.trod enc P w base spare held n f0.type ((cs.drop f0.offset).take (P.cellsOf f0.type)) = some y0 ∧
      DataW.trod enc P w base spare held n f1.type ((cs.drop f1.offset).take (P.cellsOf f1.type)) = some y1 ∧ DataW.trod enc P w base spare held n f2.type ((cs.drop f2.offset).take (P.cellsOf f2.type)) = some y2 ∧
      DataW.trod enc P w base spare held n f3.type ((cs.drop f3.offset).take (P.cellsOf f3.type)) = some y3 ∧ DataW.trod enc P w base spare held n f4.type ((cs.drop f4.offset).take (P.cellsOf f4.type)) = some y4 := by
  obtain ⟨xs, n, _, rfl, hl, hlen, hf⟩ := DataW.trod_struct ht h
  match xs, hlen with
  | [y0, y1, y2, y3, y4], _ => exact ⟨y0, y1, y2, y3, y4, n, by simpa using hf 0 f0 rfl, by simpa using hf 1 f1 rfl, by simpa using hf 2 f2 rfl, by simpa using hf 3 f3 rfl, by simpa using hf 4 f4 rfl⟩
theorem open_ax {H : Type} {enc : TypeId × Value → H} {W : World} {base : Nat} {sp : Nat → Bool} {held : Bool} {cs : Array Value} (hn : cs.size = 5) {d : DataW H} {ps : List MemPlace} (hd : DataW.Trod enc Try.prog W base sp held 25 (.agg cs) d ps) :
    ∃ x : Ax, x.ok ∧ cs = x.cells := by
  obtain ⟨fuel, hf⟩ := hd
  have h2 : Try.prog.cellsOf 3 = 1 := by kernel_rfl
  have h3 : Try.prog.cellsOf 22 = 1 := by kernel_rfl
  have h4 : Try.prog.cellsOf 9 = 1 := by kernel_rfl
  have h5 : Try.prog.cellsOf 23 = 1 := by kernel_rfl
  obtain ⟨c0, c1, c2, c3, c4, rfl⟩ := array5 hn
  obtain ⟨y0, y1, y2, y3, y4, n, g0, g1, g2, g3, g4⟩ := trod_struct5 Try.underlying25 hf
  simp only [h2, h3, h4, h5, Value.cells, List.drop_zero, List.take_succ_cons, List.take_zero, List.drop_succ_cons] at g0 g1 g2 g3 g4
  obtain ⟨a, ha, _, hwa⟩ := DataW.trod_int Try.underlying3 g0
  obtain ⟨b, hb, _, hwb⟩ := DataW.trod_int Try.underlying22 g1
  obtain ⟨s, hs, _, hws⟩ := DataW.trod_string Try.underlying9 g2
  obtain ⟨r, hr, _, hwr⟩ := DataW.trod_string Try.underlying9 g3
  obtain ⟨c, hc, _, hwc⟩ := DataW.trod_int Try.underlying23 g4
  simp only [List.cons.injEq, and_true] at ha hb hc hs hr
  subst ha hb hc hs hr
  simp [Lit.wf, IntKind.min, IntKind.max, IntKind.signed, IntKind.bits] at hwa hwb hwc
  obtain ⟨b, rfl⟩ := Int.eq_ofNat_of_zero_le hwb.1
  obtain ⟨c, rfl⟩ := Int.eq_ofNat_of_zero_le hwc.1
  refine ⟨⟨a, b, s.data.toList, r.data.toList, c⟩, ⟨by show _ ≤ a; omega, by show a ≤ _; omega, by show b < _; omega, by show c < _; omega, ?_, ?_⟩, ?_⟩
  · rw [← str_list s, str_size] at hws; exact hws
  · rw [← str_list r, str_size] at hwr; exact hwr
  · simp only [Ax.cells, str_list]
end Go.Proofs.Ytlanplknendmaaa
