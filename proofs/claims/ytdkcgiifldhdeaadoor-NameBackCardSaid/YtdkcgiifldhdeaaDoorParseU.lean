/-
  WHAT strconv.ParseUint RETURNS IN BASE SIXTEEN AT THIRTY-ONE BITS: a number and no error, or an error.
-/
import Derived.Shelf.Strconv.ToError
import Derived.Shelf.Strconv.ToErrorRange
import Derived.Test.YtdkcgiifldhdeaaDoorParse16
namespace Go.Proofs
open Go.Shelf
def Tryd.lays245_ren : Go.Shelf.Ren := ⟨fun | 129 => 67 | 171 => 82 | 205 => 81 | 243 => 83 | 245 => 65 | 246 => 84 | 279 => 74 | 280 => 75 | 281 => 76 | 282 => 77 | 283 => 59 | 284 => 60 | 285 => 61 | 286 => 62 | 316 => 80 | 317 => 66 | 318 => 68 | 319 => 69 | 320 => 70 | 337 => 78 | 338 => 79 | n => n, fun | 0 => 0 | 2 => 2 | 3 => 3 | 4 => 4 | 5 => 5 | 9 => 9 | 20 => 20 | 37 => 40 | 46 => 32 | 51 => 67 | 53 => 58 | 75 => 44 | 80 => 48 | 127 => 61 | 143 => 97 | 145 => 99 | 167 => 86 | 168 => 88 | 171 => 71 | 173 => 74 | 210 => 93 | 212 => 83 | 213 => 84 | 232 => 95 | 233 => 96 | n => n, fun | 15 => 4 | 16 => 5 | 17 => 2 | 18 => 6 | 19 => 7 | n => n⟩
theorem Tryd.lays245 : Go.Proofs.LaysC.n245 Tryd.prog Tryd.lays245_ren := {
  mixed := by kernel_rfl
  f129 := Tryd.func67.trans (congrArg some (by kernel_rfl))
  f171 := Tryd.func82.trans (congrArg some (by kernel_rfl))
  f205 := Tryd.func81.trans (congrArg some (by kernel_rfl))
  f243 := Tryd.func83.trans (congrArg some (by kernel_rfl))
  f245 := Tryd.func65.trans (congrArg some (by kernel_rfl))
  f246 := Tryd.func84.trans (congrArg some (by kernel_rfl))
  f279 := Tryd.func74.trans (congrArg some (by kernel_rfl))
  f280 := Tryd.func75.trans (congrArg some (by kernel_rfl))
  f281 := Tryd.func76.trans (congrArg some (by kernel_rfl))
  f282 := Tryd.func77.trans (congrArg some (by kernel_rfl))
  f283 := Tryd.func59.trans (congrArg some (by kernel_rfl))
  f284 := Tryd.func60.trans (congrArg some (by kernel_rfl))
  f285 := Tryd.func61.trans (congrArg some (by kernel_rfl))
  f286 := Tryd.func62.trans (congrArg some (by kernel_rfl))
  f316 := Tryd.func80.trans (congrArg some (by kernel_rfl))
  f317 := Tryd.func66.trans (congrArg some (by kernel_rfl))
  f318 := Tryd.func68.trans (congrArg some (by kernel_rfl))
  f319 := Tryd.func69.trans (congrArg some (by kernel_rfl))
  f320 := Tryd.func70.trans (congrArg some (by kernel_rfl))
  f337 := Tryd.func78.trans (congrArg some (by kernel_rfl))
  f338 := Tryd.func79.trans (congrArg some (by kernel_rfl))
  t0 := Tryd.underlying0
  a0 := Tryd.isAgg0
  z0 := Tryd.sizeOf0
  v0 := Tryd.zeroValue0
  t2 := Tryd.underlying2
  a2 := Tryd.isAgg2
  z2 := Tryd.sizeOf2
  v2 := Tryd.zeroValue2
  t3 := Tryd.underlying3
  a3 := Tryd.isAgg3
  z3 := Tryd.sizeOf3
  v3 := Tryd.zeroValue3
  t4 := Tryd.underlying4
  a4 := Tryd.isAgg4
  z4 := Tryd.sizeOf4
  v4 := Tryd.zeroValue4
  t5 := Tryd.underlying5
  a5 := Tryd.isAgg5
  z5 := Tryd.sizeOf5
  v5 := Tryd.zeroValue5
  t9 := Tryd.underlying9
  a9 := Tryd.isAgg9
  z9 := Tryd.sizeOf9
  v9 := Tryd.zeroValue9
  t20 := Tryd.underlying20
  a20 := Tryd.isAgg20
  z20 := Tryd.sizeOf20
  v20 := Tryd.zeroValue20
  t37 := Tryd.underlying40
  a37 := Tryd.isAgg40
  z37 := Tryd.sizeOf40
  v37 := Tryd.zeroValue40
  t46 := Tryd.underlying32
  a46 := Tryd.isAgg32
  z46 := Tryd.sizeOf32
  v46 := Tryd.zeroValue32
  t51 := Tryd.underlying67
  a51 := Tryd.isAgg67
  z51 := Tryd.sizeOf67
  v51 := Tryd.zeroValue67
  t53 := Tryd.underlying58
  a53 := Tryd.isAgg58
  z53 := Tryd.sizeOf58
  v53 := Tryd.zeroValue58
  t75 := Tryd.underlying44
  a75 := Tryd.isAgg44
  z75 := Tryd.sizeOf44
  v75 := Tryd.zeroValue44
  t127 := Tryd.underlying61
  a127 := Tryd.isAgg61
  z127 := Tryd.sizeOf61
  v127 := Tryd.zeroValue61
  t143 := Tryd.underlying97
  a143 := Tryd.isAgg97
  z143 := Tryd.sizeOf97
  v143 := Tryd.zeroValue97
  t145 := Tryd.underlying99
  a145 := Tryd.isAgg99
  z145 := Tryd.sizeOf99
  v145 := Tryd.zeroValue99
  t167 := Tryd.underlying86
  a167 := Tryd.isAgg86
  z167 := Tryd.sizeOf86
  v167 := Tryd.zeroValue86
  t168 := Tryd.underlying88
  a168 := Tryd.isAgg88
  z168 := Tryd.sizeOf88
  v168 := Tryd.zeroValue88
  t171 := Tryd.underlying71
  a171 := Tryd.isAgg71
  z171 := Tryd.sizeOf71
  v171 := Tryd.zeroValue71
  t173 := Tryd.underlying74
  a173 := Tryd.isAgg74
  z173 := Tryd.sizeOf74
  v173 := Tryd.zeroValue74
  t210 := Tryd.underlying93
  a210 := Tryd.isAgg93
  z210 := Tryd.sizeOf93
  v210 := Tryd.zeroValue93
  t212 := Tryd.underlying83
  a212 := Tryd.isAgg83
  z212 := Tryd.sizeOf83
  v212 := Tryd.zeroValue83
  t213 := Tryd.underlying84
  a213 := Tryd.isAgg84
  z213 := Tryd.sizeOf84
  t232 := Tryd.underlying95
  a232 := Tryd.isAgg95
  z232 := Tryd.sizeOf95
  v232 := Tryd.zeroValue95
  t233 := Tryd.underlying96
  a233 := Tryd.isAgg96
  z233 := Tryd.sizeOf96
  v233 := Tryd.zeroValue96
  g15 := by kernel_rfl
  g16 := by kernel_rfl
  g17 := by kernel_rfl
  g18 := by kernel_rfl
  g19 := by kernel_rfl
  t80 := Tryd.underlying48
  a80 := Tryd.isAgg48
  z80 := Tryd.sizeOf48
  v80 := Tryd.zeroValue48
  i0 := by kernel_rfl
  i2 := by kernel_rfl
  i3 := by kernel_rfl
  i4 := by kernel_rfl
  i5 := by kernel_rfl
  i9 := by kernel_rfl
  i20 := by kernel_rfl
  i37 := by kernel_rfl
  i46 := by kernel_rfl
  i51 := by kernel_rfl
  i53 := by kernel_rfl
  i75 := by kernel_rfl
  i80 := by kernel_rfl
  i127 := by kernel_rfl
  i143 := by kernel_rfl
  i145 := by kernel_rfl
  i167 := by kernel_rfl
  i168 := by kernel_rfl
  i171 := by kernel_rfl
  i173 := by kernel_rfl
  i210 := by kernel_rfl
  i212 := by kernel_rfl
  i232 := by kernel_rfl
  i233 := by kernel_rfl
  m15 := by kernel_rfl
  m16 := by kernel_rfl
  m17 := by kernel_rfl
  m18 := by kernel_rfl
  m19 := by kernel_rfl
  c0 := by kernel_rfl
  c2 := by kernel_rfl
  c3 := by kernel_rfl
  c4 := by kernel_rfl
  c5 := by kernel_rfl
  c9 := by kernel_rfl
  c20 := by kernel_rfl
  c37 := by kernel_rfl
  c46 := by kernel_rfl
  c51 := by kernel_rfl
  c53 := by kernel_rfl
  c75 := by kernel_rfl
  c80 := by kernel_rfl
  c127 := by kernel_rfl
  c143 := by kernel_rfl
  c145 := by kernel_rfl
  c167 := by kernel_rfl
  c168 := by kernel_rfl
  c171 := by kernel_rfl
  c173 := by kernel_rfl
  c210 := by kernel_rfl
  c212 := by kernel_rfl
  c213 := by kernel_rfl
  c232 := by kernel_rfl
  c233 := by kernel_rfl }
namespace YtdkcgiifldhdeaaDoor
open Go.RowKit
set_option linter.unusedSimpArgs false
set_option linter.unusedVariables false

/-- The two variables of strconv hold an error, or none. -/
def Errs (w : World) : Prop :=
  (∃ ev, w.cell? ⟨4, 0, none⟩ = some ev ∧ (ev = .nilIface ∨ ∃ te pe, ev = .iface te pe)) ∧
  (∃ ev, w.cell? ⟨5, 0, none⟩ = some ev ∧ (ev = .nilIface ∨ ∃ te pe, ev = .iface te pe))
theorem Errs.below {w w' : World} {B : Nat} (h : Errs w) (hb : Below B w w') (hB : w.heap.size ≤ B) : Errs w' := by
  obtain ⟨⟨e1, h1, h2⟩, ⟨e2, h3, h4⟩⟩ := h
  refine ⟨⟨e1, ?_, h2⟩, ⟨e2, ?_, h4⟩⟩
  · rw [hb.cell (p := ⟨4, 0, none⟩) (Nat.lt_of_lt_of_le (block_lt_of_cell h1) hB)]; exact h1
  · rw [hb.cell (p := ⟨5, 0, none⟩) (Nat.lt_of_lt_of_le (block_lt_of_cell h3) hB)]; exact h3
theorem toErrorS_calls (fn : ByteArray) (l : List UInt8) (hl : l.length ≤ 1000000000) (w : World) (he : Errs w) :
    Calls Tryd.prog 65 #[.string fn, .string (str l), .int .i64 16, .int .i64 31, .iface 86 (.int .i64 2)] w fun e w' => ∃ N, e = .returned (.iface 88 (.pointer (some ⟨N, 0, none⟩))) ∧ Below w.heap.size w w' := by
  obtain ⟨⟨e1, h1, h2⟩, _⟩ := he
  refine (Any.strconv_toError_syntax Tryd.lays245 fn (str l) 16 31 e1 w (by rw [str_size]; omega) h1 h2).mono ?_
  rintro e w' ⟨N, rfl, _, _, hb⟩
  exact ⟨N, rfl, hb⟩
theorem toErrorR_calls (fn : ByteArray) (l : List UInt8) (hl : l.length ≤ 1000000000) (w : World) (he : Errs w) :
    Calls Tryd.prog 65 #[.string fn, .string (str l), .int .i64 16, .int .i64 31, .iface 86 (.int .i64 1)] w fun e w' => ∃ N, e = .returned (.iface 88 (.pointer (some ⟨N, 0, none⟩))) ∧ Below w.heap.size w w' := by
  obtain ⟨_, ⟨e1, h1, h2⟩⟩ := he
  refine (Any.strconv_toError_range Tryd.lays245 fn (str l) 16 31 e1 w (by rw [str_size]; omega) h1 h2).mono ?_
  rintro e w' ⟨N, rfl, _, _, hb⟩
  exact ⟨N, rfl, hb⟩
/-- A number and no error, or an error. -/
def ParsedU (l : List UInt8) (r : Value) : Prop :=
  (∃ n : Nat, n < 2147483648 ∧ r = .tuple #[.int .u64 (n : Int), .nilIface] ∧ (HexAll l → n = hexFold 0 l)) ∨
  ((∃ (v : Int) (N : Nat), r = .tuple #[.int .u64 v, .iface 88 (.pointer (some ⟨N, 0, none⟩))]) ∧ ¬ (HexAll l ∧ l ≠ [] ∧ hexFold 0 l < 2147483648))
set_option maxHeartbeats 2000000 in
set_option maxRecDepth 100000 in
theorem parseUint_calls (l : List UInt8) (hl : l.length ≤ 1000000000) (w : World) (he : Errs w) :
    Calls Tryd.prog 58 #[.string (str l), .int .i64 16, .int .i64 31] w fun e w' => ∃ r, e = .returned r ∧ ParsedU l r ∧ Below w.heap.size w w' := by
  have HE := hide he
  clear he
  go_enter Tryd.func58, Tryd.ntmps58
  go_wp2_with fail
  refine (parse16_calls l hl _).mono ?_
  rintro e w1 ⟨r, rfl, hr, hb⟩
  have he1 := (unhide HE).below hb (Nat.le_refl _)
  rcases hr with ⟨n, h1, rfl, h2⟩ | ⟨⟨v, k, hk, rfl⟩, h2⟩
  · have H2 := hide h2
    clear h2
    go_wp2
    go_ret2
    exact ⟨_, rfl, .inl ⟨n, h1, rfl, unhide H2⟩, hb⟩
  · have H2 := hide h2
    clear h2
    rcases hk with rfl | rfl
    · go_wp2_with fail
      refine (toErrorR_calls _ l hl _ he1).mono ?_
      rintro e w2 ⟨N, rfl, hb2⟩
      go_wp2
      go_ret2
      exact ⟨_, rfl, .inr ⟨⟨v, N, rfl⟩, unhide H2⟩, hb.trans (hb2.mono hb.size)⟩
    · go_wp2_with fail
      refine (toErrorS_calls _ l hl _ he1).mono ?_
      rintro e w2 ⟨N, rfl, hb2⟩
      go_wp2
      go_ret2
      exact ⟨_, rfl, .inr ⟨⟨v, N, rfl⟩, unhide H2⟩, hb.trans (hb2.mono hb.size)⟩
end YtdkcgiifldhdeaaDoor
end Go.Proofs
