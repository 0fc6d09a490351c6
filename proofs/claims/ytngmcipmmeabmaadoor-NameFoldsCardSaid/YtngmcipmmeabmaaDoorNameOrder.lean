/-
  WHAT name's firstPlace AND Order RETURN: the order of the lists of what runes and strays count as.
-/
import Derived.Test.YtngmcipmmeabmaaDoorNamePlace
import Derived.Test.YtngmcipmmeabmaaDoorNameRef2
import Derived.Test.YtngmcipmmeabmaaDoorQuietTail
import Derived.Shelf.Unicode.DecodeAny
import Derived.Deep.QuietTactic
import Derived.BigQuiet
namespace Go.Proofs
open Go.Shelf
def Tryd.lays197_ren : Go.Shelf.Ren := ⟨fun | 197 => 70 | 260 => 87 | n => n, fun | 0 => 0 | 3 => 3 | 4 => 4 | 5 => 5 | 9 => 9 | 21 => 21 | 46 => 32 | 105 => 97 | 119 => 126 | 138 => 128 | 139 => 129 | n => n, fun | 3 => 1 | 4 => 2 | n => n⟩
theorem Tryd.lays197 : Go.Proofs.Lays.n197 Tryd.prog Tryd.lays197_ren := {
  mixed := by kernel_rfl
  f197 := Tryd.func70.trans (congrArg some (by kernel_rfl))
  f260 := Tryd.func87.trans (congrArg some (by kernel_rfl))
  t0 := Tryd.underlying0
  a0 := Tryd.isAgg0
  z0 := Tryd.sizeOf0
  v0 := Tryd.zeroValue0
  t3 := Tryd.underlying3
  a3 := Tryd.isAgg3
  z3 := Tryd.sizeOf3
  v3 := Tryd.zeroValue3
  t4 := Tryd.underlying4
  a4 := Tryd.isAgg4
  z4 := Tryd.sizeOf4
  v4 := Tryd.zeroValue4
  t5 := Tryd.underlying5
  a5 := Tryd.isAgg5
  z5 := Tryd.sizeOf5
  v5 := Tryd.zeroValue5
  t9 := Tryd.underlying9
  a9 := Tryd.isAgg9
  z9 := Tryd.sizeOf9
  v9 := Tryd.zeroValue9
  t21 := Tryd.underlying21
  a21 := Tryd.isAgg21
  z21 := Tryd.sizeOf21
  v21 := Tryd.zeroValue21
  t46 := Tryd.underlying32
  a46 := Tryd.isAgg32
  z46 := Tryd.sizeOf32
  v46 := Tryd.zeroValue32
  t105 := Tryd.underlying97
  a105 := Tryd.isAgg97
  z105 := Tryd.sizeOf97
  v105 := Tryd.zeroValue97
  t119 := Tryd.underlying126
  a119 := Tryd.isAgg126
  z119 := Tryd.sizeOf126
  t138 := Tryd.underlying128
  a138 := Tryd.isAgg128
  z138 := Tryd.sizeOf128
  v138 := Tryd.zeroValue128
  t139 := Tryd.underlying129
  a139 := Tryd.isAgg129
  z139 := Tryd.sizeOf129
  v139 := Tryd.zeroValue129
  g3 := by kernel_rfl
  g4 := by kernel_rfl }
namespace YtngmcipmmeabmaaDoor
open Go.RowKit
set_option linter.unusedSimpArgs false
set_option linter.unusedVariables false

/-- The two tables of package utf8, laid. -/
def UTabs (w : World) : Prop := Lib.Utf8Tabs (Tryd.lays197_ren.g 3) (Tryd.lays197_ren.g 4) w
theorem decodeRune_calls (s : ByteArray) (w : World) (hT : UTabs w) :
    Calls Tryd.prog 70 #[.string s] w fun e w' => e = .returned (.tuple #[.int .i32 (Lib.decodeGo s).1, .int .i64 (Lib.decodeGo s).2]) ∧ Below w.heap.size w w' :=
  Any.utf8_DecodeRuneInString Tryd.lays197 s w hT
theorem place_num (l : List UInt8) (k : Nat) (hk : k < l.length) : pPlace l k (Lib.decodeL (l.drop k)).1 = tokNum (headTok (l.drop k)) := by
  have hne : l.drop k ≠ [] := by simp; omega
  unfold pPlace
  by_cases hs : pStray l k (Lib.decodeL (l.drop k)).1 = true
  · have h := (pStray_iff l k hne).1 hs
    rw [if_pos hs, tokNum_stray _ (Prod.ext h.1 h.2), getD_drop', Nat.add_zero]
  · rw [if_neg hs]
    by_cases hw : (Lib.decodeL (l.drop k)).2 = 1
    · exact (tokNum_rune _ _ _ rfl (.inr fun h => hs ((pStray_iff l k hne).2 ⟨h, hw⟩))).symm
    · exact (tokNum_rune _ _ _ rfl (.inl hw)).symm
theorem decodeGo_list (m : List UInt8) (h : m ≠ []) : Lib.decodeGo (str m) = Lib.decodeL m := by
  have hl : 0 < m.length := List.length_pos_iff.2 h
  unfold Lib.decodeGo
  rw [if_neg (by rw [str_size]; omega), ← Lib.decodeL_drop, str_toList, List.drop_zero]
/-- What the head of a text counts as; -1 of none. -/
def fp (m : List UInt8) : Int := if m = [] then -1 else (tokNum (headTok m) : Int)
theorem fp_some (m : List UInt8) (h : m ≠ []) : fp m = (tokNum (headTok m) : Int) := by rw [fp, if_neg h]
set_option maxHeartbeats 400000 in
theorem firstPlace_calls (m : List UInt8) (hl : m.length ≤ 9223372036854775807) (w : World) (hT : UTabs w) :
    Calls Tryd.prog 50 #[.string (str m)] w fun e w' => e = .returned (.int .i32 (fp m)) ∧ Below w.heap.size w w' := by
  by_cases h0 : m = []
  · subst h0
    rw [show str [] = (⟨#[]⟩ : ByteArray) from rfl, show fp [] = -1 from rfl]
    clear hT
    go_enter Tryd.func50, Tryd.ntmps50
    go_wp2
    go_ret
    exact ⟨rfl, Below.refl _ _⟩
  · have hne : (str m).toList.isEmpty = false := by rw [ByteArray.toList_eq, str_toList]; cases hm : m with | nil => exact absurd hm h0 | cons _ _ => rfl
    have hl0 : 0 < m.length := List.length_pos_iff.2 h0
    have cD := decodeRune_calls (str m) w hT
    rw [decodeGo_list m h0] at cD
    have hpl := place_num m 0 hl0
    rw [List.drop_zero] at hpl
    have cP := fun w => place_calls m 0 (Lib.decodeL m).1 hl0 hl w
    rw [hpl] at cP
    rw [fp_some m h0]
    generalize (Lib.decodeL m).1 = r at *
    generalize (Lib.decodeL m).2 = k at *
    generalize tokNum (headTok m) = N at *
    have CD := hide cD
    have CP := hide cP
    clear cD cP hpl hT h0
    go_enter Tryd.func50, Tryd.ntmps50
    go_wp2_with fail
    refine (unhide CD).mono ?_
    rintro e w1 ⟨rfl, hb1⟩
    go_wp2_with fail
    refine (unhide CP _).mono ?_
    rintro e w2 ⟨rfl, rfl⟩
    go_wp2
    go_ret
    exact ⟨rfl, hb1⟩
/-- Which of two lists of numbers stands first. -/
def ordN : List Nat → List Nat → Int
  | [], [] => 0
  | [], _ :: _ => -1
  | _ :: _, [] => 1
  | x :: xs, y :: ys => if x < y then -1 else if y < x then 1 else ordN xs ys
theorem nums_cons (m : List UInt8) (h : m ≠ []) : nums m = tokNum (headTok m) :: nums (m.drop (Lib.decodeL m).2) := by
  unfold nums; rw [tk_cons m h]; rfl
theorem nums_nil : nums [] = [] := rfl
/-- What counts the same is the same. -/
theorem num_tok (m n : List UInt8) (hm : m ≠ []) (hn : n ≠ []) (h : tokNum (headTok m) = tokNum (headTok n)) : headTok m = headTok n ∧ (Lib.decodeL m).2 = (Lib.decodeL n).2 := by
  have hmm : headTok m ∈ tk m := by rw [tk_cons m hm]; simp
  have hnn : headTok n ∈ tk n := by rw [tk_cons n hn]; simp
  have key : headTok m = headTok n := by
    by_cases sm : (Lib.decodeL m).1 = 65533 ∧ (Lib.decodeL m).2 = 1 <;> by_cases sn : (Lib.decodeL n).1 = 65533 ∧ (Lib.decodeL n).2 = 1
    · rw [tokNum_stray m (Prod.ext sm.1 sm.2), tokNum_stray n (Prod.ext sn.1 sn.2)] at h
      unfold headTok
      rw [if_pos sm, if_pos sn, sm.2, sn.2]
      have e : m.getD 0 0 = n.getD 0 0 := by apply UInt8.toNat.inj; omega
      rw [Lib.takeA m (List.length_pos_iff.2 hm), Lib.takeA n (List.length_pos_iff.2 hn), e]
    · exfalso
      rcases tk_mem n _ hnn with ⟨r, h1, h2⟩ | ⟨b, hb⟩
      · rw [tokNum_stray m (Prod.ext sm.1 sm.2), tokNum_some _ r h1] at h; omega
      · have := congrArg (·.1) hb
        simp only [headTok, if_neg sn] at this
        cases this
    · exfalso
      rcases tk_mem m _ hmm with ⟨r, h1, h2⟩ | ⟨b, hb⟩
      · rw [tokNum_stray n (Prod.ext sn.1 sn.2), tokNum_some _ r h1] at h; omega
      · have := congrArg (·.1) hb
        simp only [headTok, if_neg sm] at this
        cases this
    · have em := Lib.encode_decode m hm sm
      have en := Lib.encode_decode n hn sn
      have hr : (Lib.decodeL m).1 = (Lib.decodeL n).1 := by
        have h1 : tokNum (headTok m) = (Lib.decodeL m).1 := tokNum_some _ _ (by simp only [headTok, if_neg sm])
        have h2 : tokNum (headTok n) = (Lib.decodeL n).1 := tokNum_some _ _ (by simp only [headTok, if_neg sn])
        omega
      unfold headTok
      rw [if_neg sm, if_neg sn, ← em, ← en, hr]
  refine ⟨key, ?_⟩
  have h1 := Lib.decodeL_le m hm
  have h2 := Lib.decodeL_le n hn
  have := congrArg (fun t => t.2.length) key
  simp only [headTok, List.length_take] at this
  omega
end YtngmcipmmeabmaaDoor
end Go.Proofs
