/-
  AN ASK AS AN ARGUMENT: what a row hands the walks.
-/
import Derived.Test.YtccecnohgakllaaDoorRowDig
import Derived.Test.YtccecnohgakllaaDoorLightL
import Derived.SliceStrings
import Derived.ChangeShapes
import Derived.ChangeArms
import Derived.Lib.SmallJoins
namespace Go.Proofs.YtccecnohgakllaaDoor
open Go.ChangeShapes Go.WideShapes Go.ChangeAt Go.RowKit
set_option linter.unusedVariables false

theorem trod_struct5 {H : Type} {enc : TypeId × Value → H} {P : Program} {w : World} {base : Nat} {spare : Nat → Bool} {held : Bool} {t : TypeId} {f0 f1 f2 f3 f4 : Field} {fuel : Nat} {cs : List Value} {x : DataW H × List MemPlace} (ht : P.underlying t = some (.struct #[f0, f1, f2, f3, f4])) (h : DataW.trod enc P w base spare held fuel t cs = some x) :
    ∃ y0 y1 y2 y3 y4 n, cs.length = P.cellsOf t ∧ DataW.trod enc P w base spare held n f0.type ((cs.drop f0.offset).take (P.cellsOf f0.type)) = some y0 ∧ DataW.trod enc P w base spare held n f1.type ((cs.drop f1.offset).take (P.cellsOf f1.type)) = some y1 ∧
      DataW.trod enc P w base spare held n f2.type ((cs.drop f2.offset).take (P.cellsOf f2.type)) = some y2 ∧ DataW.trod enc P w base spare held n f3.type ((cs.drop f3.offset).take (P.cellsOf f3.type)) = some y3 ∧ DataW.trod enc P w base spare held n f4.type ((cs.drop f4.offset).take (P.cellsOf f4.type)) = some y4 := by
  obtain ⟨xs, n, _, rfl, hl, hlen, hf⟩ := DataW.trod_struct ht h
  match xs, hlen with
  | [y0, y1, y2, y3, y4], _ => exact ⟨y0, y1, y2, y3, y4, n, hl, by simpa using hf 0 f0 rfl, by simpa using hf 1 f1 rfl, by simpa using hf 2 f2 rfl, by simpa using hf 3 f3 rfl, by simpa using hf 4 f4 rfl⟩
theorem open_parts {H : Type} {enc : TypeId × Value → H} {W : World} {base : Nat} {sp : Nat → Bool} {held : Bool} {fuel : Nat} {cs : List Value} {x : DataW H × List MemPlace} (h : DataW.trod enc Tryd.prog W base sp held fuel 31 cs = some x) :
    ∃ (p : Option Addr) (parts : List (List UInt8)) (c : Nat), cs = [.slice p parts.length c] ∧ parts.length ≤ maxLen ∧ (∀ p ∈ parts, p.length ≤ maxLen) ∧ StrsAt W p parts := by
  rcases open_strings Tryd.underlying31 Tryd.underlying9 (by kernel_rfl) h with ⟨hcs, _⟩ | ⟨x, l, c, ss, hcs, _, hl, hm, hz, _, hcell, hws⟩
  · exact ⟨none, [], 0, hcs, by simp, by simp, .inl rfl⟩
  · have hlen : l ≤ ss.length := by rw [hz]; split <;> omega
    refine ⟨some x, (ss.take l).map fun s => s.data.toList, c, ?_, ?_, ?_, ?_⟩
    · rw [hcs]; simp; omega
    · simp; omega
    · intro p hp
      obtain ⟨s, hs, rfl⟩ := List.mem_map.1 hp
      rw [size_list]; exact hws s (List.mem_of_mem_take hs)
    · by_cases h0 : l = 0
      · left; simp [h0]
      · right
        obtain ⟨b, off, spot⟩ := x
        have hspot : spot = none := by simpa [Addr.add] using World.cell?_spot (hcell 0 (by omega))
        subst hspot
        refine ⟨b, off, rfl, ?_, fun j hj => ?_⟩
        · have := block_lt_of_cell (hcell 0 (by omega)); simpa [Addr.add] using this
        · have hj' : j < l := by simp at hj; omega
          have hc := hcell j (by omega)
          have hss : j < ss.length := by omega
          have e2 : (⟨b, off, none⟩ : Addr).add j = ⟨b, off + j, none⟩ := by unfold Addr.add; split <;> simp_all
          rw [e2] at hc
          rw [hc]
          simp [hss, hj', str_list]
set_option maxRecDepth 100000 in
theorem open_ask {H : Type} {enc : TypeId × Value → H} {W : World} {base : Nat} {sp : Nat → Bool} {held : Bool} {cs : Array Value} (hn : cs.size = 67) {d : DataW H} {ps : List MemPlace} (hd : DataW.Trod enc Tryd.prog W base sp held 33 (.agg cs) d ps) :
    ∃ q : AskD, cs = q.cells ∧ q.Good W := by
  obtain ⟨fuel, hf⟩ := hd
  have e0 : Tryd.prog.cellsOf 5 = 1 := by kernel_rfl
  have e1 : Tryd.prog.cellsOf 31 = 1 := by kernel_rfl
  have e2 : Tryd.prog.cellsOf 4 = 1 := by kernel_rfl
  have e3 : Tryd.prog.cellsOf 24 = 32 := by kernel_rfl
  obtain ⟨y0, y1, y2, y3, y4, n, hl, h0, h1, h2, h3, h4⟩ := trod_struct5 Tryd.underlying33 hf
  simp only [e0, e1, e2, e3, Value.cells] at h0 h1 h2 h3 h4
  have hL : cs.toList.length = 67 := by simpa using hn
  generalize hcs : cs.toList = L at *
  obtain ⟨h, ha, _, hw⟩ := DataW.trod_int Tryd.underlying5 h0
  obtain ⟨p, parts, c, hp, hpn, hpl, hps⟩ := open_parts h1
  obtain ⟨two, hb⟩ : ∃ b, (L.drop 2).take 1 = [.bool b] := by
    obtain ⟨b, hb, _⟩ := DataW.trod_bool Tryd.underlying4 h2
    exact ⟨b, hb⟩
  obtain ⟨a, ea, la⟩ := open_digest (xs := ((L.drop 3).take 32).toArray) (by simp; omega) ⟨n, h3⟩
  obtain ⟨b, eb, lb⟩ := open_digest (xs := ((L.drop 35).take 32).toArray) (by simp; omega) ⟨n, h4⟩
  simp [Lit.wf, IntKind.min, IntKind.max, IntKind.signed, IntKind.bits] at hw
  obtain ⟨dom, rfl⟩ := Int.eq_ofNat_of_zero_le hw.1
  refine ⟨⟨dom, p, c, parts, two, a, b⟩, ?_, la, lb, by show dom < 256; omega, hpn, hpl, hps⟩
  have hsplit : L = (L.drop 0).take 1 ++ ((L.drop 1).take 1 ++ ((L.drop 2).take 1 ++ ((L.drop 3).take 32 ++ (L.drop 35).take 32))) := by
    rw [List.drop_zero]
    conv => lhs; rw [← List.take_append_drop 1 L, ← List.take_append_drop 1 (L.drop 1), List.drop_drop, ← List.take_append_drop 1 (L.drop (1 + 1)), List.drop_drop, ← List.take_append_drop 32 (L.drop (1 + 1 + 1)), List.drop_drop]
    rw [List.take_of_length_le (l := L.drop 35) (by rw [List.length_drop]; omega)]
  have f3 : (L.drop 3).take 32 = (bc a).toList := by rw [← ea]
  have f4 : (L.drop 35).take 32 = (bc b).toList := by rw [← eb]
  rw [ha, hp, hb, f3, f4] at hsplit
  apply Array.toList_inj.1
  rw [hcs, hsplit]
  show _ = (askc dom p parts.length c two a b).toList
  unfold askc
  simp
end Go.Proofs.YtccecnohgakllaaDoor
