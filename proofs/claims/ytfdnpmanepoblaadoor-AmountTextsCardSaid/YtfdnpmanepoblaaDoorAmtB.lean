/-
  amount's awake; math/bits.Div64 where the high word is zero.
-/
import Derived.Test.YtfdnpmanepoblaaDoorAmtA
import Derived.WalkSmall
import Derived.Test.YtfdnpmanepoblaaDoorKit
import Derived.Deep.QuietTactic
import Derived.BigQuiet
namespace Go.Proofs.YtfdnpmanepoblaaDoor
open Go.RowKit
theorem mixed : Tryd.prog.follows .mixedOrders = true := by kernel_rfl
set_option linter.unusedSimpArgs false
set_option linter.unusedVariables false

theorem set2 (w : World) (g : Nat) (t : TypeId) (z0 z1 v0 v1 : Value) (hg : w.heap[g]? = some (.cells #[z0, z1] t (0, 0))) : ((w.setCell ⟨g, 0, none⟩ v0).setCell ⟨g, 1, none⟩ v1).heap[g]? = some (.cells #[v0, v1] t (0, 0)) := by
  have h0 : (w.setCell ⟨g, 0, none⟩ v0).heap[g]? = some (.cells #[v0, z1] t (0, 0)) := heap_setCell_same _ g 0 _ t v0 hg
  have h1 : ((w.setCell ⟨g, 0, none⟩ v0).setCell ⟨g, 1, none⟩ v1).heap[g]? = some (.cells #[v0, v1] t (0, 0)) := heap_setCell_same _ g 1 _ t v1 h0
  exact h1
theorem set4 (w : World) (g : Nat) (t : TypeId) (z0 z1 z2 z3 v0 v1 v2 v3 : Value) (hg : w.heap[g]? = some (.cells #[z0, z1, z2, z3] t (0, 0))) : ((((w.setCell ⟨g, 0, none⟩ v0).setCell ⟨g, 1, none⟩ v1).setCell ⟨g, 2, none⟩ v2).setCell ⟨g, 3, none⟩ v3).heap[g]? = some (.cells #[v0, v1, v2, v3] t (0, 0)) := by
  have h0 : (w.setCell ⟨g, 0, none⟩ v0).heap[g]? = some (.cells #[v0, z1, z2, z3] t (0, 0)) := heap_setCell_same _ g 0 _ t v0 hg
  have h1 : ((w.setCell ⟨g, 0, none⟩ v0).setCell ⟨g, 1, none⟩ v1).heap[g]? = some (.cells #[v0, v1, z2, z3] t (0, 0)) := heap_setCell_same _ g 1 _ t v1 h0
  have h2 : (((w.setCell ⟨g, 0, none⟩ v0).setCell ⟨g, 1, none⟩ v1).setCell ⟨g, 2, none⟩ v2).heap[g]? = some (.cells #[v0, v1, v2, z3] t (0, 0)) := heap_setCell_same _ g 2 _ t v2 h1
  exact heap_setCell_same _ g 3 _ t v3 h2
theorem bset2 {B : Nat} {w w' : World} (h : Below B w w') {g : Nat} (hg : B ≤ g) (v0 v1 : Value) : Below B w ((w'.setCell ⟨g, 0, none⟩ v0).setCell ⟨g, 1, none⟩ v1) := (h.setCell (p := ⟨g, 0, none⟩) hg v0).setCell (p := ⟨g, 1, none⟩) hg v1
theorem bset2' {B : Nat} {w w' : World} (h : Below B w w') {g : Nat} (hg : B ≤ g) (v0 v1 : Value) : Below B w ((w'.setCell ⟨g, 2, none⟩ v0).setCell ⟨g, 3, none⟩ v1) := (h.setCell (p := ⟨g, 2, none⟩) hg v0).setCell (p := ⟨g, 3, none⟩) hg v1
theorem bset4 {B : Nat} {w w' : World} (h : Below B w w') {g : Nat} (hg : B ≤ g) (v0 v1 v2 v3 : Value) : Below B w ((((w'.setCell ⟨g, 0, none⟩ v0).setCell ⟨g, 1, none⟩ v1).setCell ⟨g, 2, none⟩ v2).setCell ⟨g, 3, none⟩ v3) := bset2' (bset2 h hg v0 v1) hg v2 v3
theorem wrap_div (lo y : Nat) (hl : lo < 18446744073709551616) : IntKind.u64.wrap ((lo : Int) / (y : Int)) = ((lo / y : Nat) : Int) := by
  have := Nat.div_le_self lo y
  rw [IntKind.wrap_u64, ← Int.natCast_ediv]
  generalize lo / y = q at *
  omega
set_option maxRecDepth 100000 in
theorem div64_zero (lo y : Nat) (hl : lo < 18446744073709551616) (hy : y < 18446744073709551616) (h0 : 0 < y) (w : World) :
    Calls Tryd.prog 15 #[.int .u64 0, .int .u64 (lo : Int), .int .u64 (y : Int)] w fun e w' => e = .returned (.tuple #[.int .u64 ((lo / y : Nat) : Int), .int .u64 ((lo % y : Nat) : Int)]) ∧ Below w.heap.size w w' := by
  go_enter Tryd.func15, Tryd.ntmps15
  go_wp2
  go_quiet (fail)
  go_wp2
  go_ret2
  refine ⟨?_, below_drewN (Below.refl _ _) _⟩
  show Ending.returned (.tuple #[.int .u64 (IntKind.u64.wrap ((lo : Int) / (y : Int))), .int .u64 ((lo : Int) % (y : Int))]) = _
  rw [wrap_div lo y hl, Int.natCast_emod]
set_option maxRecDepth 100000 in
theorem split100 (w : World) :
    Calls Tryd.prog 10 #[.int .u64 100, .int .u64 1, .int .u64 3] w fun e w' => e = .returned (.tuple #[.int .u64 33, .int .u64 67]) ∧ Below w.heap.size w w' := by
  have hm := fun w => mul64_calls 100 1 (by decide) (by decide) w
  have hd := fun w => div64_zero 100 3 (by decide) (by decide) (by decide) w
  go_enter Tryd.func10, Tryd.ntmps10
  go_wp2_with fail
  refine (hm _).mono ?_
  rintro e w1 ⟨rfl, rfl⟩
  go_wp2_with fail
  refine (hd _).mono ?_
  rintro e w1 ⟨rfl, hb⟩
  go_wp2
  go_ret2
  exact ⟨rfl, hb⟩
set_option maxRecDepth 100000 in
theorem awake_calls (w : World) : Calls Tryd.prog 4 #[] w fun e w' => e = .returned (.bool true) ∧ Below w.heap.size w w' := by
  have ha := fun w => amtAdd_calls 18446744073709551615 1 (by decide) (by decide) w
  go_enter Tryd.func4, Tryd.ntmps4
  go_wp2_with fail
  refine (ha _).mono ?_
  rintro e w1 ⟨rfl, rfl⟩
  simp only [show pAdd 18446744073709551615 1 = (0, 10) from rfl]
  go_wp2_with fail
  refine (split100 _).mono ?_
  rintro e w1 ⟨rfl, hb⟩
  go_wp2
  go_ret
  exact ⟨rfl, hb⟩
end Go.Proofs.YtfdnpmanepoblaaDoor
