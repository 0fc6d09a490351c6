/-
  THE WALK OF THE LAW AmountSplits: it returns true, and nothing that was there has turned.
-/
import Derived.Test.YtajeicabfcelaaaAmtR
namespace Go.Proofs.Ytajeicabfcelaaa
open Go.RowKit
set_option linter.unusedSimpArgs false
set_option linter.unusedVariables false

set_option maxHeartbeats 1000000 in
set_option maxRecDepth 100000 in
theorem amountSplits_walk (n part whole : Nat) (hn : n < 18446744073709551616) (hp : part < 18446744073709551616) (hw : whole < 18446744073709551616) (w : World) :
    Calls Try.prog 4 #[.int .u64 (n : Int), .int .u64 (part : Int), .int .u64 (whole : Int)] w fun e w' => e = .returned (.bool true) ∧ Below w.heap.size w w' := by
  go_enter Try.func4, Try.ntmps4
  go_wp2_with fail
  refine (awake_calls _).mono ?_
  rintro e w1 ⟨rfl, hb1⟩
  go_wp2_with fail
  refine (split_calls n part whole hn hp hw _).mono ?_
  rintro e w2 ⟨rfl, hb2⟩
  go_wp2_with fail
  refine (refSplit_calls n part whole hn hp hw _).mono ?_
  rintro e w3 ⟨rfl, rfl⟩
  go_wp2_with fail
  refine (awake_calls _).mono ?_
  rintro e w4 ⟨rfl, hb4⟩
  have b2 := hb1.trans (hb2.mono hb1.size)
  have b4 := b2.trans (hb4.mono b2.size)
  have B4 := hide b4
  clear hb1 hb2 hb4 b2 b4
  generalize (pSplit n part whole).1 = x1
  generalize (pSplit n part whole).2 = x2
  go_wp2
  go_ret
  exact ⟨rfl, unhide B4⟩
end Go.Proofs.Ytajeicabfcelaaa
