/-
  THE LIBRARY'S CONTRACTS OF strings.CutPrefix AND strings.CutSuffix AT THIS SEAT'S NUMBERS.
-/
import Derived.Shelf.Small.Wraps
import Derived.Test.YtdkcgiifldhdeaaDoorProg
import Derived.Test.YtdkcgiifldhdeaaDoorStrP
import Derived.WalkKit
namespace Go.Proofs
open Go.Shelf
def Tryd.lays103_ren : Go.Shelf.Ren := ⟨fun | 103 => 36 | 206 => 52 | 210 => 48 | n => n, fun | 3 => 3 | 4 => 4 | 9 => 9 | 24 => 29 | n => n, fun | n => n⟩
theorem Tryd.lays103 : Go.Proofs.Lays.n103 Tryd.prog Tryd.lays103_ren := {
  mixed := by kernel_rfl
  f103 := Tryd.func36.trans (congrArg some (by kernel_rfl))
  f206 := Tryd.func52.trans (congrArg some (by kernel_rfl))
  f210 := Tryd.func48.trans (congrArg some (by kernel_rfl))
  t3 := Tryd.underlying3
  a3 := Tryd.isAgg3
  z3 := Tryd.sizeOf3
  v3 := Tryd.zeroValue3
  t4 := Tryd.underlying4
  a4 := Tryd.isAgg4
  z4 := Tryd.sizeOf4
  v4 := Tryd.zeroValue4
  t9 := Tryd.underlying9
  a9 := Tryd.isAgg9
  z9 := Tryd.sizeOf9
  v9 := Tryd.zeroValue9
  t24 := Tryd.underlying29
  a24 := Tryd.isAgg29
  z24 := Tryd.sizeOf29
  v24 := Tryd.zeroValue29 }
def Tryd.lays104_ren : Go.Shelf.Ren := ⟨fun | 104 => 37 | 207 => 56 | 211 => 49 | n => n, fun | 3 => 3 | 4 => 4 | 9 => 9 | 24 => 29 | n => n, fun | n => n⟩
theorem Tryd.lays104 : Go.Proofs.Lays.n104 Tryd.prog Tryd.lays104_ren := {
  mixed := by kernel_rfl
  f104 := Tryd.func37.trans (congrArg some (by kernel_rfl))
  f207 := Tryd.func56.trans (congrArg some (by kernel_rfl))
  f211 := Tryd.func49.trans (congrArg some (by kernel_rfl))
  t3 := Tryd.underlying3
  a3 := Tryd.isAgg3
  z3 := Tryd.sizeOf3
  v3 := Tryd.zeroValue3
  t4 := Tryd.underlying4
  a4 := Tryd.isAgg4
  z4 := Tryd.sizeOf4
  v4 := Tryd.zeroValue4
  t9 := Tryd.underlying9
  a9 := Tryd.isAgg9
  z9 := Tryd.sizeOf9
  v9 := Tryd.zeroValue9
  t24 := Tryd.underlying29
  a24 := Tryd.isAgg29
  z24 := Tryd.sizeOf29
  v24 := Tryd.zeroValue29 }
namespace YtdkcgiifldhdeaaDoor
open Go.RowKit
theorem cutPrefix_calls (l p : List UInt8) (w : World) : Calls Tryd.prog 36 #[.string (str l), .string (str p)] w fun e w' => e = .returned (.tuple #[.string (str (Lib.trimPrefix l p)), .bool (Lib.hasPrefix l p)]) ∧ w' = w := by
  have h := Any.strings_CutPrefix Tryd.lays103 (str l) (str p) w
  rw [str_toList, str_toList] at h
  exact h
theorem cutSuffix_calls (l p : List UInt8) (hl : l.length ≤ 9223372036854775807) (w : World) : Calls Tryd.prog 37 #[.string (str l), .string (str p)] w fun e w' => e = .returned (.tuple #[.string (str (Lib.trimSuffix l p)), .bool (Lib.hasSuffix l p)]) ∧ w' = w := by
  have h := Any.strings_CutSuffix Tryd.lays104 (str l) (str p) w (by rw [str_size]; exact hl)
  rw [str_toList, str_toList] at h
  exact h
end YtdkcgiifldhdeaaDoor
end Go.Proofs
