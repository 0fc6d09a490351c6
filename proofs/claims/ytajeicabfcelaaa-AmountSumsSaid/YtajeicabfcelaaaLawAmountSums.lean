/-
  THE WALK OF THE LAW AmountSums: it returns true, and nothing that was there has turned.
-/
import Derived.Test.YtajeicabfcelaaaAmtB
namespace Go.Proofs.Ytajeicabfcelaaa
open Go.RowKit
set_option linter.unusedSimpArgs false
set_option linter.unusedVariables false

theorem pAdd_lt (a b : Nat) : (pAdd a b).1 < 18446744073709551616 := by unfold pAdd; split <;> simp; omega
set_option maxHeartbeats 1000000 in
set_option maxRecDepth 100000 in
theorem amountSums_walk (a b : Nat) (ha : a < 18446744073709551616) (hb : b < 18446744073709551616) (w : World) :
    Calls Try.prog 3 #[.int .u64 (a : Int), .int .u64 (b : Int)] w fun e w' => e = .returned (.bool true) ∧ Below w.heap.size w w' := by
  go_enter Try.func3, Try.ntmps3
  go_wp2_with fail
  refine (awake_calls _).mono ?_
  rintro e w1 ⟨rfl, hb1⟩
  go_wp2_with fail
  refine (amtAdd_calls a b ha hb _).mono ?_
  rintro e w2 ⟨rfl, rfl⟩
  go_wp2_with fail
  refine (refAdd_calls a b ha hb _).mono ?_
  rintro e w2 ⟨rfl, rfl⟩
  go_wp2_with fail
  refine (amtSub_calls a b ha hb _).mono ?_
  rintro e w2 ⟨rfl, rfl⟩
  go_wp2_with fail
  refine (refSub_calls a b ha hb _).mono ?_
  rintro e w2 ⟨rfl, rfl⟩
  go_wp2_with fail
  refine (awake_calls _).mono ?_
  rintro e w3 ⟨rfl, hb3⟩
  generalize (pAdd a b).1 = x1
  generalize (pAdd a b).2 = x2
  generalize (pSub a b).1 = x3
  generalize (pSub a b).2 = x4
  go_wp2
  go_ret
  exact ⟨rfl, hb1.trans (hb3.mono hb1.size)⟩
end Go.Proofs.Ytajeicabfcelaaa
