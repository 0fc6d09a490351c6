/-
  ASKS IN MEMORY; WHAT THE LAW'S light RETURNS OF TWO.
-/
import Derived.Test.YtccecnohgakllaaDoorDigIn
import Derived.Test.YtccecnohgakllaaDoorQuietTail
import Derived.Test.YtccecnohgakllaaDoorStoreNew
import Derived.Test.YtccecnohgakllaaDoorMidB
namespace Go.Proofs.YtccecnohgakllaaDoor
open Go Go.RowKit
set_option linter.unusedSimpArgs false
set_option linter.unusedVariables false

def askc (dom : Nat) (p : Option Addr) (n c : Nat) (two : Bool) (A B : List UInt8) : Array Value := #[.int .u8 (dom : Int), .slice p n c, .bool two] ++ bc A ++ bc B
theorem askc_size (dom : Nat) (p : Option Addr) (n c : Nat) (two : Bool) (A B : List UInt8) (hA : A.length = 32) (hB : B.length = 32) : (askc dom p n c two A B).size = 67 := by simp [askc, bc_size, hA, hB]
theorem askc_0 (dom : Nat) (p : Option Addr) (n c : Nat) (two : Bool) (A B : List UInt8) : (askc dom p n c two A B)[0]? = some (.int .u8 (dom : Int)) := by simp [askc, Array.getElem?_append]
theorem askc_1 (dom : Nat) (p : Option Addr) (n c : Nat) (two : Bool) (A B : List UInt8) : (askc dom p n c two A B)[1]? = some (.slice p n c) := by simp [askc, Array.getElem?_append]
theorem askc_one (dom : Nat) (p : Option Addr) (n c : Nat) (two : Bool) (A B : List UInt8) : (askc dom p n c two A B).all (·.oneCell') = true := by
  unfold askc
  rw [Array.all_append, Array.all_append, bc_oneCell, bc_oneCell]
  simp [Value.oneCell']
theorem ask_info (C : Array Value) (h : C.size = 67) : (Tryd.prog.info? 33).map (·.size) = some C.size := by rw [h]; kernel_rfl
/-- Is an ask gone through? -/
def askOk (parts : List (List UInt8)) : Bool := decide (parts.length ≤ 20) && parts.all fun p => decide (p.length ≤ 1000)
end Go.Proofs.YtccecnohgakllaaDoor
