/-
  WHAT name's place RETURNS.
-/
import Derived.Test.YtngmcipmmeabmaaDoorNameStray
import Derived.Test.YtngmcipmmeabmaaDoorStrIdx
namespace Go.Proofs.YtngmcipmmeabmaaDoor
open Go.RowKit
set_option linter.unusedSimpArgs false
set_option linter.unusedVariables false

/-- What a rune or a stray counts as in the order. -/
def pPlace (l : List UInt8) (k r : Nat) : Nat := if pStray l k r then 2000000 + (l.getD k 0).toNat else r
set_option maxHeartbeats 400000 in
theorem place_calls (l : List UInt8) (k r : Nat) (hk : k < l.length) (hl : l.length ≤ 9223372036854775807) (w : World) :
    Calls Tryd.prog 49 #[.string (str l), .int .i64 (k : Int), .int .i32 (r : Int)] w fun e w' => e = .returned (.int .i32 (pPlace l k r : Int)) ∧ w' = w := by
  have hst := isStray_calls l k r (by omega) hl
  have hix := str_index l k hk
  generalize hP : pPlace l k r = P
  have HP := hide hP
  clear hP
  generalize hbx : l.getD k 0 = bx at hix
  have Hbx := hide hbx
  have hb8 := bx.toNat_lt
  clear hbx
  cases hc : pStray l k r with
  | true =>
    rw [hc] at hst
    have Hst := hide hst
    have hp : P = 2000000 + bx.toNat := by rw [← unhide HP, pPlace, if_pos hc, unhide Hbx]
    have Hp := hide hp
    have w1 : IntKind.i32.wrap (2000000 + (bx.toNat : Int)) = 2000000 + (bx.toNat : Int) := by rw [IntKind.wrap_i32]; omega
    have w2 : IntKind.i32.wrap (bx.toNat : Int) = (bx.toNat : Int) := by rw [IntKind.wrap_i32]; omega
    clear hst hc hp
    go_enter Tryd.func49, Tryd.ntmps49
    go_wp2_with (go_at_call 39; refine (unhide Hst _).mono ?_; rintro e w' ⟨rfl, rfl⟩)
    go_ret
    refine ⟨?_, rfl⟩
    rw [unhide Hp]; simp
  | false =>
    rw [hc] at hst
    have Hst := hide hst
    have hp : P = r := by rw [← unhide HP, pPlace, if_neg (by rw [hc]; exact Bool.false_ne_true)]
    have Hp := hide hp
    clear hst hc hp
    go_enter Tryd.func49, Tryd.ntmps49
    go_wp2_with (go_at_call 39; refine (unhide Hst _).mono ?_; rintro e w' ⟨rfl, rfl⟩)
    go_ret
    refine ⟨?_, rfl⟩
    rw [unhide Hp]; rfl
end Go.Proofs.YtngmcipmmeabmaaDoor
