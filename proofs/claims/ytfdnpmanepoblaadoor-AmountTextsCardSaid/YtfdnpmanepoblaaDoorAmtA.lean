/-
  WHAT amount's Add, Sub AND THE DOCUMENT'S RETURN; math/bits.Add64, Sub64, Mul64.
-/
import Derived.Test.YtfdnpmanepoblaaDoorChecked
import Derived.Laws.Externs
import Derived.Shelf.Bits.Mul64
import Derived.WalkKit
import Derived.Test.YtfdnpmanepoblaaDoorWordPure
namespace Go.Proofs
open Go.Shelf
def Tryd.lays264_ren : Go.Shelf.Ren := ⟨fun | 264 => 14 | n => n, fun | 46 => 41 | 53 => 22 | n => n, fun | n => n⟩
theorem Tryd.lays264 : Go.Proofs.Lays.n264 Tryd.prog Tryd.lays264_ren := {
  mixed := by kernel_rfl
  f264 := Tryd.func14.trans (congrArg some (by kernel_rfl))
  t46 := Tryd.underlying41
  a46 := Tryd.isAgg41
  z46 := Tryd.sizeOf41
  v46 := Tryd.zeroValue41
  t53 := Tryd.underlying22
  a53 := Tryd.isAgg22
  z53 := Tryd.sizeOf22
  v53 := Tryd.zeroValue22 }
namespace YtfdnpmanepoblaaDoor
open Go.RowKit
set_option linter.unusedSimpArgs false
set_option linter.unusedVariables false

theorem add64_run (x y c : Nat) (hc : c ≤ 1) (w : World) :
    (callFunc 13 #[.int .u64 (x : Int), .int .u64 (y : Int), .int .u64 (c : Int)]).run Tryd.prog w =
      .ok (.value (.tuple #[.int .u64 (((x + y + c) % 18446744073709551616 : Nat) : Int), .int .u64 (((x + y + c) / 18446744073709551616 : Nat) : Int)])) w := by
  rw [run_callFunc_extern Tryd.func13 (by kernel_rfl) (by kernel_rfl) (by kernel_rfl) (e := add64Entry) (by kernel_rfl), run_add64 x y c (by omega) (by omega) (by omega) (by omega)]
  simp only [Result.andThen]
  congr 5 <;> omega
def sub64E : Array Value → Sem Value := fun args => do
  let (x, y, b) ← Extern.MathBitsCarry.three "Sub64" args
  pure (Extern.MathBitsCarry.pair ((x + Extern.MathBitsCarry.m64 - y - b) % Extern.MathBitsCarry.m64) (if x < y + b then 1 else 0))
theorem sub64E_run {P : Program} (x y b : Nat) (hb : b ≤ 1) (w : World) :
    (sub64E #[.int .u64 x, .int .u64 y, .int .u64 b]).run P w =
      .ok (.tuple #[.int .u64 (((x + 18446744073709551616 - y - b) % 18446744073709551616 : Nat) : Int), .int .u64 ((if x < y + b then 1 else 0 : Nat) : Int)]) w := by
  have : b = 0 ∨ b = 1 := by omega
  rcases this with rfl | rfl <;> rfl
theorem mul64_calls (x y : Nat) (hx : x < 18446744073709551616) (hy : y < 18446744073709551616) (w : World) :
    Calls Tryd.prog 14 #[.int .u64 (x : Int), .int .u64 (y : Int)] w fun e w' => e = .returned (.tuple #[.int .u64 ((x * y / 18446744073709551616 : Nat) : Int), .int .u64 ((x * y % 18446744073709551616 : Nat) : Int)]) ∧ w' = w :=
  Any.bits_Mul64 Tryd.lays264 x y hx hy w
/-- A sum with its error. -/
def pAdd (a b : Nat) : Nat × Nat := if 18446744073709551616 ≤ a + b then (0, 10) else (a + b, 0)
def pSub (a b : Nat) : Nat × Nat := if a < b then (0, 11) else (a - b, 0)
theorem amtAdd_calls (a b : Nat) (ha : a < 18446744073709551616) (hb : b < 18446744073709551616) (w : World) :
    Calls Tryd.prog 9 #[.int .u64 (a : Int), .int .u64 (b : Int)] w fun e w' => e = .returned (.tuple #[.int .u64 ((pAdd a b).1 : Int), .int .i64 ((pAdd a b).2 : Int)]) ∧ w' = w := by
  have h : ∀ w, (callFunc 13 #[.int .u64 (a : Int), .int .u64 (b : Int), .int .u64 0]).run Tryd.prog w =
      .ok (.value (.tuple #[.int .u64 (((a + b + 0) % 18446744073709551616 : Nat) : Int), .int .u64 (((a + b + 0) / 18446744073709551616 : Nat) : Int)])) w := fun w => add64_run a b 0 (by omega) w
  unfold pAdd
  go_enter Tryd.func9, Tryd.ntmps9
  by_cases hc : 18446744073709551616 ≤ a + b
  · rw [if_pos hc]
    have e : (a + b + 0) / 18446744073709551616 = 1 := by omega
    rw [e] at h
    generalize (a + b + 0) % 18446744073709551616 = s at h
    go_wp2_with (simp only [h])
    go_ret2
    exact ⟨rfl, rfl⟩
  · rw [if_neg hc]
    have e : (a + b + 0) / 18446744073709551616 = 0 := by omega
    have e' : (a + b + 0) % 18446744073709551616 = a + b := by omega
    rw [e, e'] at h
    generalize a + b = s at *
    go_wp2_with (simp only [h])
    go_ret2
    exact ⟨rfl, rfl⟩
end YtfdnpmanepoblaaDoor
end Go.Proofs
