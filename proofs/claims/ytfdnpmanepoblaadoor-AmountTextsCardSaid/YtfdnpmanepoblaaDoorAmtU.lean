/-
  WHAT amount's Text AND Read RETURN.
-/
import Derived.Shelf.Pu.ParseUintPublic10
import Derived.Test.YtfdnpmanepoblaaDoorAmtT
namespace Go.Proofs
open Go.Shelf
def Tryd.lays14_ren : Go.Shelf.Ren := ⟨fun | 14 => 11 | 16 => 16 | 17 => 17 | 19 => 20 | 20 => 21 | 21 => 22 | 22 => 23 | 23 => 24 | 24 => 25 | 25 => 31 | 26 => 32 | 27 => 33 | 28 => 38 | 29 => 41 | 30 => 26 | 31 => 27 | 32 => 28 | 33 => 29 | 34 => 34 | 35 => 30 | 36 => 35 | 37 => 36 | 38 => 37 | 39 => 39 | 40 => 40 | n => n, fun | 0 => 0 | 2 => 2 | 3 => 3 | 4 => 4 | 5 => 5 | 9 => 9 | 20 => 20 | 21 => 21 | 22 => 22 | 24 => 34 | 25 => 35 | 34 => 43 | 36 => 41 | 37 => 38 | 39 => 46 | 44 => 56 | 47 => 65 | 48 => 66 | 50 => 68 | 52 => 50 | 55 => 52 | 59 => 60 | 60 => 61 | 61 => 62 | 65 => 71 | 66 => 72 | 67 => 73 | n => n, fun | 0 => 2 | 1 => 3 | 2 => 4 | 3 => 5 | 4 => 6 | n => n⟩
theorem Tryd.lays14 : Go.Proofs.LaysPu.n14 Tryd.prog Tryd.lays14_ren := {
  mixed := by kernel_rfl
  f14 := Tryd.func11.trans (congrArg some (by kernel_rfl))
  f16 := Tryd.func16.trans (congrArg some (by kernel_rfl))
  f17 := Tryd.func17.trans (congrArg some (by kernel_rfl))
  f19 := Tryd.func20.trans (congrArg some (by kernel_rfl))
  f20 := Tryd.func21.trans (congrArg some (by kernel_rfl))
  f21 := Tryd.func22.trans (congrArg some (by kernel_rfl))
  f22 := Tryd.func23.trans (congrArg some (by kernel_rfl))
  f23 := Tryd.func24.trans (congrArg some (by kernel_rfl))
  f24 := Tryd.func25.trans (congrArg some (by kernel_rfl))
  f25 := Tryd.func31.trans (congrArg some (by kernel_rfl))
  f26 := Tryd.func32.trans (congrArg some (by kernel_rfl))
  f27 := Tryd.func33.trans (congrArg some (by kernel_rfl))
  f28 := Tryd.func38.trans (congrArg some (by kernel_rfl))
  f29 := Tryd.func41.trans (congrArg some (by kernel_rfl))
  f30 := Tryd.func26.trans (congrArg some (by kernel_rfl))
  f31 := Tryd.func27.trans (congrArg some (by kernel_rfl))
  f32 := Tryd.func28.trans (congrArg some (by kernel_rfl))
  f33 := Tryd.func29.trans (congrArg some (by kernel_rfl))
  f34 := Tryd.func34.trans (congrArg some (by kernel_rfl))
  f35 := Tryd.func30.trans (congrArg some (by kernel_rfl))
  f36 := Tryd.func35.trans (congrArg some (by kernel_rfl))
  f37 := Tryd.func36.trans (congrArg some (by kernel_rfl))
  f38 := Tryd.func37.trans (congrArg some (by kernel_rfl))
  f39 := Tryd.func39.trans (congrArg some (by kernel_rfl))
  f40 := Tryd.func40.trans (congrArg some (by kernel_rfl))
  t0 := Tryd.underlying0
  a0 := Tryd.isAgg0
  z0 := Tryd.sizeOf0
  v0 := Tryd.zeroValue0
  i0 := by kernel_rfl
  t2 := Tryd.underlying2
  a2 := Tryd.isAgg2
  z2 := Tryd.sizeOf2
  v2 := Tryd.zeroValue2
  i2 := by kernel_rfl
  t3 := Tryd.underlying3
  a3 := Tryd.isAgg3
  z3 := Tryd.sizeOf3
  v3 := Tryd.zeroValue3
  i3 := by kernel_rfl
  t4 := Tryd.underlying4
  a4 := Tryd.isAgg4
  z4 := Tryd.sizeOf4
  v4 := Tryd.zeroValue4
  i4 := by kernel_rfl
  t5 := Tryd.underlying5
  a5 := Tryd.isAgg5
  z5 := Tryd.sizeOf5
  v5 := Tryd.zeroValue5
  i5 := by kernel_rfl
  t9 := Tryd.underlying9
  a9 := Tryd.isAgg9
  z9 := Tryd.sizeOf9
  v9 := Tryd.zeroValue9
  i9 := by kernel_rfl
  t20 := Tryd.underlying20
  a20 := Tryd.isAgg20
  z20 := Tryd.sizeOf20
  v20 := Tryd.zeroValue20
  i20 := by kernel_rfl
  t21 := Tryd.underlying21
  a21 := Tryd.isAgg21
  z21 := Tryd.sizeOf21
  v21 := Tryd.zeroValue21
  i21 := by kernel_rfl
  t22 := Tryd.underlying22
  a22 := Tryd.isAgg22
  z22 := Tryd.sizeOf22
  v22 := Tryd.zeroValue22
  i22 := by kernel_rfl
  t24 := Tryd.underlying34
  a24 := Tryd.isAgg34
  z24 := Tryd.sizeOf34
  v24 := Tryd.zeroValue34
  i24 := by kernel_rfl
  t25 := Tryd.underlying35
  a25 := Tryd.isAgg35
  z25 := Tryd.sizeOf35
  v25 := Tryd.zeroValue35
  i25 := by kernel_rfl
  t34 := Tryd.underlying43
  a34 := Tryd.isAgg43
  z34 := Tryd.sizeOf43
  v34 := Tryd.zeroValue43
  i34 := by kernel_rfl
  c34 := by kernel_rfl
  t36 := Tryd.underlying41
  a36 := Tryd.isAgg41
  z36 := Tryd.sizeOf41
  v36 := Tryd.zeroValue41
  i36 := by kernel_rfl
  t37 := Tryd.underlying38
  a37 := Tryd.isAgg38
  z37 := Tryd.sizeOf38
  v37 := Tryd.zeroValue38
  i37 := by kernel_rfl
  t39 := Tryd.underlying46
  a39 := Tryd.isAgg46
  z39 := Tryd.sizeOf46
  v39 := Tryd.zeroValue46
  i39 := by kernel_rfl
  t44 := Tryd.underlying56
  a44 := Tryd.isAgg56
  z44 := Tryd.sizeOf56
  v44 := Tryd.zeroValue56
  i44 := by kernel_rfl
  t47 := Tryd.underlying65
  a47 := Tryd.isAgg65
  z47 := Tryd.sizeOf65
  v47 := Tryd.zeroValue65
  i47 := by kernel_rfl
  t48 := Tryd.underlying66
  a48 := Tryd.isAgg66
  z48 := Tryd.sizeOf66
  v48 := Tryd.zeroValue66
  i48 := by kernel_rfl
  t50 := Tryd.underlying68
  a50 := Tryd.isAgg68
  z50 := Tryd.sizeOf68
  v50 := Tryd.zeroValue68
  i50 := by kernel_rfl
  t52 := Tryd.underlying50
  a52 := Tryd.isAgg50
  z52 := Tryd.sizeOf50
  v52 := Tryd.zeroValue50
  i52 := by kernel_rfl
  t55 := Tryd.underlying52
  a55 := Tryd.isAgg52
  z55 := Tryd.sizeOf52
  v55 := Tryd.zeroValue52
  i55 := by kernel_rfl
  t59 := Tryd.underlying60
  a59 := Tryd.isAgg60
  z59 := Tryd.sizeOf60
  v59 := Tryd.zeroValue60
  i59 := by kernel_rfl
  t60 := Tryd.underlying61
  a60 := Tryd.isAgg61
  z60 := Tryd.sizeOf61
  v60 := Tryd.zeroValue61
  i60 := by kernel_rfl
  t61 := Tryd.underlying62
  a61 := Tryd.isAgg62
  z61 := Tryd.sizeOf62
  t65 := Tryd.underlying71
  a65 := Tryd.isAgg71
  z65 := Tryd.sizeOf71
  v65 := Tryd.zeroValue71
  i65 := by kernel_rfl
  t66 := Tryd.underlying72
  a66 := Tryd.isAgg72
  z66 := Tryd.sizeOf72
  v66 := Tryd.zeroValue72
  i66 := by kernel_rfl
  t67 := Tryd.underlying73
  a67 := Tryd.isAgg73
  z67 := Tryd.sizeOf73
  v67 := Tryd.zeroValue73
  i67 := by kernel_rfl
  g0 := by kernel_rfl
  m0 := by kernel_rfl
  g1 := by kernel_rfl
  m1 := by kernel_rfl
  g2 := by kernel_rfl
  m2 := by kernel_rfl
  g3 := by kernel_rfl
  m3 := by kernel_rfl
  g4 := by kernel_rfl
  m4 := by kernel_rfl }
namespace YtfdnpmanepoblaaDoor
open Go Go.RowKit
set_option linter.unusedSimpArgs false
set_option linter.unusedVariables false

/-- The table of tens, and the two errors, as the program's text lays them. -/
structure Tens (w : World) : Prop where
  tab : Lib.TabIs Tryd.prog w "internal/strconv.uint64pow10" .u64 Lib.pow10Tab
theorem formatUint_calls (u : Nat) (hu64 : u < 18446744073709551616) (w : World) (htab : Lib.TabIs Tryd.prog w "internal/strconv.uint64pow10" .u64 Lib.pow10Tab) :
    Calls Tryd.prog 12 #[.int .u64 (u : Int), .int .i64 10] w fun e w' => e = .returned (.string (str (pDec u))) ∧ Below w.heap.size w w' := by
  have hc := iformatUint_calls u hu64 w htab
  generalize pDec u = D at *
  go_enter Tryd.func12, Tryd.ntmps12
  go_wp2_with fail
  refine hc.mono ?_
  rintro e w' ⟨rfl, hb⟩
  go_wp2
  go_ret
  exact ⟨rfl, hb⟩
theorem text_calls (u : Nat) (hu64 : u < 18446744073709551616) (w : World) (htab : Lib.TabIs Tryd.prog w "internal/strconv.uint64pow10" .u64 Lib.pow10Tab) :
    Calls Tryd.prog 7 #[.int .u64 (u : Int)] w fun e w' => e = .returned (.string (str (pDec u))) ∧ Below w.heap.size w w' := by
  have hc := formatUint_calls u hu64 w htab
  generalize pDec u = D at *
  go_enter Tryd.func7, Tryd.ntmps7
  go_wp2_with fail
  refine hc.mono ?_
  rintro e w' ⟨rfl, hb⟩
  go_wp2
  go_ret
  exact ⟨rfl, hb⟩
end YtfdnpmanepoblaaDoor
end Go.Proofs
