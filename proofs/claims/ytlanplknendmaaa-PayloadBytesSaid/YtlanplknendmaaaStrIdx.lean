/-
  A BYTE OF A TEXT; DIGITS OF BASE SIXTEEN.
-/
import Derived.Test.YtlanplknendmaaaCellsB
namespace Go.Proofs.Ytlanplknendmaaa
open Go.RowKit
set_option linter.unusedSimpArgs false
set_option linter.unusedVariables false

def hexList : List UInt8 := [48, 49, 50, 51, 52, 53, 54, 55, 56, 57, 97, 98, 99, 100, 101, 102]
def hexd (n : Nat) : UInt8 := hexList.getD n 0
theorem str_index (l : List UInt8) (n : Nat) (h : n < l.length) (w : World) : (Instr.index 9 (.string (str l)) (.int .i64 (n : Int))).run Try.prog w = .ok (.int .u8 ((l.getD n 0).toNat : Int)) w := by
  rw [run_index_string w 9 _ .i64 n Try.underlying9, dif_pos ⟨by omega, by rw [str_size]; omega⟩]
  simp only [Int.toNat_natCast]
  rw [byte_at (str l) n (by rw [str_size]; exact h), str_toList]
theorem hex_index (n : Nat) (h : n < 16) (w : World) : (Instr.index 9 (.string ⟨#[48, 49, 50, 51, 52, 53, 54, 55, 56, 57, 97, 98, 99, 100, 101, 102]⟩) (.int .u8 (n : Int))).run Try.prog w = .ok (.int .u8 ((hexd n).toNat : Int)) w := by
  rw [run_index_string w 9 _ .u8 n Try.underlying9, dif_pos ⟨by omega, by show (n : Int) < 16; omega⟩]
  have : ∀ n : Nat, n < 16 → ∀ h', ((⟨#[48, 49, 50, 51, 52, 53, 54, 55, 56, 57, 97, 98, 99, 100, 101, 102]⟩ : ByteArray)[n]'h').toNat = (hexd n).toNat := by decide
  simp only [Int.toNat_natCast]
  rw [this n h]

end Go.Proofs.Ytlanplknendmaaa
