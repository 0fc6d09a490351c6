/-
  WHAT THE LAWS OF LAYER 1 LEAN ON: the chapter's example, equality of digests, of words, of states.
-/
import Derived.Test.YtfobcchiakjhgaaDoorShaText
import Derived.Test.YtfobcchiakjhgaaDoorKitEq
namespace Go.Proofs.YtfobcchiakjhgaaDoor
open Go.RowKit
set_option linter.unusedSimpArgs false
set_option linter.unusedVariables false

theorem digest_eql (d : List UInt8) (hd : d.length = 32) (w : World) : (binOp .eql 30 (.agg (bc d)) (.agg (bc d))).run Tryd.prog w = .ok (.bool true) w := by
  obtain ⟨la, hla⟩ := keyLits_ints (P := Tryd.prog) 30 5 32 .u8 Tryd.underlying30 Tryd.underlying5 (by kernel_rfl) (by kernel_rfl) (d.map fun b => (b.toNat : Int)) (by simpa using hd) (fun z hz => by
    obtain ⟨b, _, rfl⟩ := List.mem_map.1 hz
    have := b.toNat_lt
    simp [Lit.wf, IntKind.min, IntKind.max, IntKind.signed, IntKind.bits]; omega)
  refine eql_refl 30 2 2 (by omega) (by kernel_rfl) _ ?_ la ?_ w
  · simp only [Value.formed, Tryd.underlying30, bc_size, hd]; kernel_rfl
  · rw [← hla]; simp [bc, Lib.byteCells]; rfl
theorem words_eql (l : List (BitVec 32)) (hl : l.length = 8) (w : World) : (binOp .eql 23 (.agg (wc l)) (.agg (wc l))).run Tryd.prog w = .ok (.bool true) w := by
  obtain ⟨la, hla⟩ := keyLits_ints (P := Tryd.prog) 23 22 8 .u32 Tryd.underlying23 Tryd.underlying22 (by kernel_rfl) (by kernel_rfl) (l.map fun b => (b.toNat : Int)) (by simpa using hl) (fun z hz => by
    obtain ⟨b, _, rfl⟩ := List.mem_map.1 hz
    have := b.isLt
    simp [Lit.wf, IntKind.min, IntKind.max, IntKind.signed, IntKind.bits]; omega)
  refine eql_refl 23 2 2 (by omega) (by kernel_rfl) _ ?_ la ?_ w
  · simp only [Value.formed, Tryd.underlying23, wc_size, hl]; kernel_rfl
  · rw [← hla]; simp [wc]; rfl

theorem abc : pText (pSum [[97, 98, 99]]) = [98, 97, 55, 56, 49, 54, 98, 102, 56, 102, 48, 49, 99, 102, 101, 97, 52, 49, 52, 49, 52, 48, 100, 101, 53, 100, 97, 101, 50, 50, 50, 51, 98, 48, 48, 51, 54, 49, 97, 51, 57, 54, 49, 55, 55, 97, 57, 99, 98, 52, 49, 48, 102, 102, 54, 49, 102, 50, 48, 48, 49, 53, 97, 100] := by decide +kernel

/-- A sum of one text that lies in a row of its own. -/
theorem sum_one (l : List UInt8) (hl : l.length ≤ 70368744177664) (g cap : Nat) (t : TypeId) (fr : Nat × Nat) (w : World) (hg : w.heap[g]? = some (.cells #[.string (str l)] t fr)) (tabs : Tabs w) :
    Calls Tryd.prog 17 #[.slice (some ⟨g, 0, none⟩) 1 cap] w fun e w' => e = .returned (.agg (bc (pSum [l]))) ∧ Below w.heap.size w w' := by
  refine sum_some [l] (fun p hp => by simp at hp; subst hp; exact hl) (by simp) g 0 cap w ?_ (fun j hj => ?_) tabs
  · by_cases h : g < w.heap.size
    · exact h
    · rw [Array.getElem?_eq_none (by omega)] at hg; cases hg
  · obtain rfl : j = 0 := by simp at hj; omega
    rw [cell_of_row _ _ _ _ _ _ hg]; rfl
theorem hex64 : (({ data := #[98, 97, 55, 56, 49, 54, 98, 102, 56, 102, 48, 49, 99, 102, 101, 97, 52, 49, 52, 49, 52, 48, 100, 101, 53, 100, 97, 101, 50, 50, 50, 51, 98, 48, 48, 51, 54, 49, 97, 51, 57, 54, 49, 55, 55, 97, 57, 99, 98, 52, 49, 48, 102, 102, 54, 49, 102, 50, 48, 48, 49, 53, 97, 100] } : ByteArray)) = str [98, 97, 55, 56, 49, 54, 98, 102, 56, 102, 48, 49, 99, 102, 101, 97, 52, 49, 52, 49, 52, 48, 100, 101, 53, 100, 97, 101, 50, 50, 50, 51, 98, 48, 48, 51, 54, 49, 97, 51, 57, 54, 49, 55, 55, 97, 57, 99, 98, 52, 49, 48, 102, 102, 54, 49, 102, 50, 48, 48, 49, 53, 97, 100] := rfl

set_option maxHeartbeats 400000 in
set_option maxRecDepth 100000 in
theorem awake_calls (w : World) (tabs : Tabs w) :
    Calls Tryd.prog 14 #[] w fun e w' => e = .returned (.bool true) ∧ Below w.heap.size w w' := by
  go_enter Tryd.func14, Tryd.ntmps14
  go_wp2_with fail
  have hb0 := (Below.refl w.heap.size w).alloc (Nat.le_refl _) (.cells #[.string (str [97, 98, 99])] 9)
  refine (sum_one [97, 98, 99] (by decide) w.heap.size 1 _ _ _ (al1 w (.cells #[.string (str [97, 98, 99])] 9)) (tabs.below' hb0)).mono ?_
  rintro en w1 ⟨rfl, hb1⟩
  have hb1' := hb0.trans (hb1.mono (by simp))
  have hlen := pSum_length [[97, 98, 99]]
  have habc := abc
  generalize pSum [[97, 98, 99]] = sm at *
  have Hb := hide hb1'
  clear hb0 hb1 hb1'
  go_wp2_with fail
  refine (text_calls sm hlen _).mono ?_
  rintro en w2 ⟨rfl, hb2⟩
  rw [habc, ← hex64]
  go_wp2
  go_ret
  exact ⟨rfl, (unhide Hb).trans (hb2.mono (unhide Hb).size)⟩
end Go.Proofs.YtfobcchiakjhgaaDoor
