/-
  WHAT THE LAWS OF LAYER 3 LEAN ON: the chapter's examples.
-/
import Derived.Test.YtngmcipmmeabmaaWireText
import Derived.Test.YtngmcipmmeabmaaWireRead5
import Derived.Test.YtngmcipmmeabmaaKitEq
namespace Go.Proofs.Ytngmcipmmeabmaa
open Go.RowKit
set_option linter.unusedSimpArgs false
set_option linter.unusedVariables false

theorem digest_eql (d : List UInt8) (hd : d.length = 32) (w : World) : (binOp .eql 24 (.agg (bc d)) (.agg (bc d))).run Try.prog w = .ok (.bool true) w := by
  obtain ⟨la, hla⟩ := keyLits_ints (P := Try.prog) 24 5 32 .u8 Try.underlying24 Try.underlying5 (by kernel_rfl) (by kernel_rfl) (d.map fun b => (b.toNat : Int)) (by simpa using hd) (fun z hz => by
    obtain ⟨b, _, rfl⟩ := List.mem_map.1 hz
    have := b.toNat_lt
    simp [Lit.wf, IntKind.min, IntKind.max, IntKind.signed, IntKind.bits]; omega)
  refine eql_refl 24 2 2 (by omega) (by kernel_rfl) _ ?_ la ?_ w
  · simp only [Value.formed, Try.underlying24, bc_size, hd]; kernel_rfl
  · rw [← hla]; simp [bc, Lib.byteCells]; rfl
theorem digest_equal (d : List UInt8) (hd : d.length = 32) (w : World) : (Op.equalIn 10000 24 (.agg (bc d)) (.agg (bc d))).run Try.prog w = .ok true w := by
  obtain ⟨la, hla⟩ := keyLits_ints (P := Try.prog) 24 5 32 .u8 Try.underlying24 Try.underlying5 (by kernel_rfl) (by kernel_rfl) (d.map fun b => (b.toNat : Int)) (by simpa using hd) (fun z hz => by
    obtain ⟨b, _, rfl⟩ := List.mem_map.1 hz
    have := b.toNat_lt
    simp [Lit.wf, IntKind.min, IntKind.max, IntKind.signed, IntKind.bits]; omega)
  refine equalIn_refl 24 2 2 (by omega) (by kernel_rfl) _ ?_ la ?_ w
  · simp only [Value.formed, Try.underlying24, bc_size, hd]; kernel_rfl
  · rw [← hla]; simp [bc, Lib.byteCells]; rfl
theorem w258 : pBig 258 4 = [0, 0, 1, 2] := by decide +kernel
theorem wab : pText4 [97, 98] = [0, 0, 0, 2, 97, 98] := by decide +kernel
theorem wawake_calls (w : World) :
    Calls Try.prog 7 #[] w fun e w' => e = .returned (.bool true) ∧ Below w.heap.size w w' := by
  have h1 : ∀ w, Calls Try.prog 11 #[.int .u32 258] w fun e w' => e = .returned (.string ⟨#[0, 0, 1, 2]⟩) ∧ Below w.heap.size w w' := fun w => by
    have := wword_calls 258 (by decide) w
    rw [w258] at this; exact this
  have h2 : ∀ w, Calls Try.prog 15 #[.string ⟨#[97, 98]⟩] w fun e w' => e = .returned (.string ⟨#[0, 0, 0, 2, 97, 98]⟩) ∧ Below w.heap.size w w' := fun w => by
    have := wtext_calls [97, 98] (by decide) w
    rw [wab] at this; exact this
  have H1 := hide h1
  have H2 := hide h2
  clear h1 h2
  go_enter Try.func7, Try.ntmps7
  go_wp2_with fail
  refine (unhide H1 _).mono ?_
  rintro e w1 ⟨rfl, hb1⟩
  go_wp2_with fail
  refine (unhide H2 _).mono ?_
  rintro e w2 ⟨rfl, hb2⟩
  go_wp2
  go_ret
  exact ⟨rfl, hb1.trans (hb2.mono hb1.size)⟩
end Go.Proofs.Ytngmcipmmeabmaa
