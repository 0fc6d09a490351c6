/-
  WHAT wire's Byte, Word, Long, Text RETURN.
-/
import Derived.Test.YtccecnohgakllaaDoorWireNum
namespace Go.Proofs.YtccecnohgakllaaDoor
open Go.RowKit
set_option linter.unusedSimpArgs false
set_option linter.unusedVariables false

theorem wword_calls (n : Nat) (hn : n < 4294967296) (w : World) :
    Calls Tryd.prog 43 #[.int .u32 (n : Int)] w fun e w' => e = .returned (.string (str (pBig n 4))) ∧ Below w.heap.size w w' := by
  have hc := number_calls n 4 (by decide) (by decide) w
  generalize pBig n 4 = B at *
  have Hc := hide hc
  clear hc
  go_enter Tryd.func43, Tryd.ntmps43
  go_wp2_with fail
  refine (unhide Hc).mono ?_
  rintro e w' ⟨rfl, hb⟩
  go_wp2
  go_ret
  exact ⟨rfl, hb⟩
theorem wbyte_calls (n : Nat) (hn : n < 256) (w : World) :
    Calls Tryd.prog 31 #[.int .u8 (n : Int)] w fun e w' => e = .returned (.string (str (pBig n 1))) ∧ Below w.heap.size w w' := by
  have hc := number_calls n 1 (by decide) (by decide) w
  generalize pBig n 1 = B at *
  have Hc := hide hc
  clear hc
  go_enter Tryd.func31, Tryd.ntmps31
  go_wp2_with fail
  refine (unhide Hc).mono ?_
  rintro e w' ⟨rfl, hb⟩
  go_wp2
  go_ret
  exact ⟨rfl, hb⟩
/-- A text's length, and it. -/
def pText4 (l : List UInt8) : List UInt8 := pBig l.length 4 ++ l
theorem pText4_length (l : List UInt8) : (pText4 l).length = 4 + l.length := by unfold pText4; rw [List.length_append, pBig_length]
theorem wtext_calls (l : List UInt8) (hl : l.length < 4294967296) (w : World) :
    Calls Tryd.prog 32 #[.string (str l)] w fun e w' => e = .returned (.string (str (pText4 l))) ∧ Below w.heap.size w w' := by
  have hc := wword_calls l.length hl w
  unfold pText4
  have hlen := pBig_length l.length 4
  generalize pBig l.length 4 = B at *
  have Hc := hide hc
  have ea := append_str B l
  have n1 : ¬ 9223372036854775807 < B.length + l.length := by omega
  clear hc hlen
  go_enter Tryd.func32, Tryd.ntmps32
  go_wp2_with fail
  refine (unhide Hc).mono ?_
  rintro e w' ⟨rfl, hb⟩
  go_wp2
  go_ret
  exact ⟨rfl, hb⟩
end Go.Proofs.YtccecnohgakllaaDoor
