/-
  THE WALK OF THE LAW WireNil: it returns true, and nothing that was there has turned.
-/
import Derived.Test.YtngmcipmmeabmaaWireLaw
namespace Go.Proofs.Ytngmcipmmeabmaa
open Go.RowKit
set_option linter.unusedSimpArgs false
set_option linter.unusedVariables false

set_option maxHeartbeats 4000000 in
set_option maxRecDepth 100000 in
theorem wireNil_walk (w : World) :
    Calls Try.prog 6 #[] w fun e w' => e = .returned (.bool true) ∧ Below w.heap.size w w' := by
  have eqd : ∀ w, (Op.equalIn 10000 24 (.agg (bc [0, 0, 0, 0, 0, 0, 0, 0, 0, 0, 0, 0, 0, 0, 0, 0, 0, 0, 0, 0, 0, 0, 0, 0, 0, 0, 0, 0, 0, 0, 0, 0])) (.agg #[.int .u8 0, .int .u8 0, .int .u8 0, .int .u8 0, .int .u8 0, .int .u8 0, .int .u8 0, .int .u8 0, .int .u8 0, .int .u8 0, .int .u8 0, .int .u8 0, .int .u8 0, .int .u8 0, .int .u8 0, .int .u8 0, .int .u8 0, .int .u8 0, .int .u8 0, .int .u8 0, .int .u8 0, .int .u8 0, .int .u8 0, .int .u8 0, .int .u8 0, .int .u8 0, .int .u8 0, .int .u8 0, .int .u8 0, .int .u8 0, .int .u8 0, .int .u8 0])).run Try.prog w = .ok true w := digest_equal (List.replicate 32 0) rfl
  have hfd : ∀ w, (Instr.field 27 (.agg #[.int .i64 0, .slice none 0 0, .slice none 0 0, .slice none 0 0]) 0).run Try.prog w = .ok (.int .i64 0) w := fun w => by kernel_rfl
  go_enter Try.func6, Try.ntmps6
  go_wp2_with fail
  refine (wawake_calls _).mono ?_
  rintro e w1 ⟨rfl, hb1⟩
  go_wp2_with fail
  refine (fail_nil _ _).mono ?_
  rintro e w1' ⟨rfl, rfl⟩
  go_wp2_with fail
  refine (wawake_calls _).mono ?_
  rintro e w2 ⟨rfl, hb2⟩
  go_wp2_with fail
  refine (rbyte_nil _).mono ?_
  rintro e w3 ⟨rfl, hb3⟩
  go_wp2_with fail
  refine (rword_nil _).mono ?_
  rintro e w4 ⟨rfl, hb4⟩
  go_wp2_with fail
  refine (rlong_nil _).mono ?_
  rintro e w5 ⟨rfl, hb5⟩
  go_wp2_with fail
  refine (rdigest_nil _).mono ?_
  rintro e w6 ⟨rfl, hb6⟩
  go_wp2_with fail
  refine (rdtext_nil _ _).mono ?_
  rintro e w7 ⟨rfl, hb7⟩
  rw [show str [] = (⟨#[]⟩ : ByteArray) from rfl]
  go_wp2_with fail
  refine (rdigests_nil _ _).mono ?_
  rintro e w8 ⟨x8, rfl, hb8⟩
  go_wp2_with fail
  refine (rsig_nil _).mono ?_
  rintro e w9 ⟨rfl, hb9⟩
  unfold sig0
  go_wp2_with fail
  refine (left_nil _).mono ?_
  rintro e w9' ⟨rfl, rfl⟩
  go_wp2_with fail
  refine (end_nil _).mono ?_
  rintro e w9'' ⟨rfl, rfl⟩
  go_wp2
  go_ret
  have b2 := hb1.trans (hb2.mono hb1.size)
  have b3 := b2.trans (hb3.mono b2.size)
  have b4 := b3.trans (hb4.mono b3.size)
  have b5 := b4.trans (hb5.mono b4.size)
  have b6 := b5.trans (hb6.mono b5.size)
  have b7 := b6.trans (hb7.mono b6.size)
  have b8 := b7.trans (hb8.mono b7.size)
  exact ⟨rfl, b8.trans (hb9.mono b8.size)⟩
end Go.Proofs.Ytngmcipmmeabmaa
