/-
  WHAT THE DOCUMENT'S OWN Quote OF LAYER 2 RETURNS: what name's own answers.
-/
import Derived.Test.YtdkcgiifldhdeaaDoorNameRef3
import Derived.Test.YtdkcgiifldhdeaaDoorNameHex
import Derived.Test.YtdkcgiifldhdeaaDoorNameRef4
import Derived.Test.YtdkcgiifldhdeaaDoorNameLaw
namespace Go.Proofs.YtdkcgiifldhdeaaDoor
open Go.RowKit
set_option linter.unusedSimpArgs false
set_option linter.unusedVariables false

/-- What stands for a rune or a stray, told by its number, in a quote. -/
def qNum (n : Nat) : List UInt8 :=
  if n = 34 ∨ n = 92 then [92, UInt8.ofNat n]
  else if 32 ≤ n ∧ n ≤ 126 then [UInt8.ofNat n]
  else if 2000000 ≤ n then [92, 120] ++ pHex (n - 2000000) ++ [59]
  else [92, 117] ++ pHex n ++ [59]
theorem encOne (n : Nat) (h : n ≤ 127) : Lib.encodeRune (n : Int) = [UInt8.ofNat n] := by
  unfold Lib.encodeRune
  rw [Lib.encodeRuneZ_one (by omega) (by omega)]
  simp only [List.map_cons, List.map_nil]
  congr 1
theorem quoteItem_num (l : List UInt8) (x : Nat × Nat) (h : x ∈ items l) : quoteItem l x = qNum (tokNum (tokOf l x)) := by
  obtain ⟨h1, h2⟩ := items_mem l x h
  have hne : l.drop x.1 ≠ [] := by simp; omega
  have hm : tokOf l x ∈ tk l := by rw [← items_tok]; exact List.mem_map_of_mem h
  unfold quoteItem
  by_cases hs : pStray l x.1 x.2 = true
  · rw [if_pos hs]
    have hs' := hs
    rw [h2] at hs'
    have hw := (pStray_iff l x.1 hne).1 hs'
    have hn : tokNum (tokOf l x) = 2000000 + (l.getD x.1 0).toNat := by
      unfold tokNum tokOf
      simp only [if_pos hs]
      rw [hw.2, List.drop_eq_getElem_cons h1, List.take_succ_cons, List.take_zero, List.getD_eq_getElem?_getD, List.getD_eq_getElem?_getD, List.getElem?_eq_getElem h1]; rfl
    rw [hn]
    unfold qNum
    rw [if_neg (by omega), if_neg (by omega), if_pos (by omega), Nat.add_sub_cancel_left]
  · rw [if_neg hs]
    have hn : tokNum (tokOf l x) = x.2 := by
      unfold tokNum tokOf; simp only [if_neg hs]
    have hlt : x.2 < 2000000 := by
      rcases tk_mem l _ hm with ⟨r, e1, e2⟩ | ⟨b, e⟩
      · rw [← hn, tokNum_some _ r e1]; omega
      · have e' := congrArg (·.1) e
        unfold tokOf at e'
        simp only [if_neg hs] at e'
        cases e'
    rw [hn]
    unfold qNum
    by_cases c1 : x.2 = 34 ∨ x.2 = 92
    · rw [if_pos c1, if_pos c1, encOne _ (by omega)]
    · rw [if_neg c1, if_neg c1]
      by_cases c2 : 32 ≤ x.2 ∧ x.2 ≤ 126
      · rw [if_pos c2, if_pos c2, encOne _ (by omega)]
      · rw [if_neg c2, if_neg c2, if_neg (by omega)]
theorem pQuote_nums (l : List UInt8) : pQuote l = 34 :: ((nums l).flatMap qNum ++ [34]) := by
  unfold pQuote nums
  rw [← items_tok, List.map_map, List.flatMap_def, List.flatMap_def, List.map_map]
  congr 3
  apply List.map_congr_left
  intro x hx
  exact quoteItem_num l x hx
theorem qNum_len (n : Nat) : (qNum n).length ≤ 12 := by
  have h1 := pHex_length n
  have h2 := pHex_length (n - 2000000)
  unfold qNum
  generalize pHex n = A at *
  generalize pHex (n - 2000000) = B at *
  by_cases c1 : n = 34 ∨ n = 92
  · rw [if_pos c1]; show 2 ≤ 12; omega
  · rw [if_neg c1]
    by_cases c2 : 32 ≤ n ∧ n ≤ 126
    · rw [if_pos c2]; show 1 ≤ 12; omega
    · rw [if_neg c2]
      by_cases c3 : 2000000 ≤ n
      · rw [if_pos c3, List.length_append, List.length_append]; show 2 + _ + 1 ≤ 12; omega
      · rw [if_neg c3, List.length_append, List.length_append]; show 2 + _ + 1 ≤ 12; omega
theorem qNums_len : ∀ xs : List Nat, (xs.flatMap qNum).length ≤ 12 * xs.length
  | [] => by simp
  | x :: xs => by
    have h1 := qNum_len x
    have h2 := qNums_len xs
    rw [List.flatMap_cons, List.length_append, List.length_cons]; omega
theorem num_cases (x : Nat) : x = 34 ∨ x = 92 ∨ (32 ≤ x ∧ x ≤ 126 ∧ x ≠ 34 ∧ x ≠ 92) ∨ x < 32 ∨ (126 < x ∧ x < 2000000) ∨ 2000000 ≤ x := by omega
theorem one_conv (w : World) (x : Nat) (h : x < 256) : (convert 40 9 (.slice (some ⟨w.heap.size, 0, none⟩) 1 1)).run Tryd.prog (w.alloc (.cells #[.int .u8 (x : Int)] 5)) = .ok (.string (str [UInt8.ofNat x])) (w.alloc (.cells #[.int .u8 (x : Int)] 5)) := by
  have hc : (w.alloc (.cells #[.int .u8 (x : Int)] 5)).cell? ⟨w.heap.size, 0, none⟩ = some (.int .u8 (x : Int)) := by go_simp
  refine run_convert_bytes_back (P := Tryd.prog) _ 40 9 5 ⟨w.heap.size, 0, none⟩ 1 [UInt8.ofNat x] Tryd.underlying40 Tryd.underlying5 Tryd.underlying9 (fun j hj => ?_)
  have : j = 0 := by simp at hj; omega
  subst this
  have e := ofNat_small x h
  rw [e] at hc ⊢
  exact hc
set_option maxHeartbeats 4000000 in
set_option maxRecDepth 100000 in
theorem rquote_calls (l : List UInt8) (hl : l.length ≤ 1000000000) (w : World) :
    Calls Tryd.prog 23 #[.string (str l)] w fun e w' => e = .returned (.string (str (pQuote l))) ∧ Below w.heap.size w w' := by
  have hnum := numbers_calls l hl
  have hlen := nums_le l
  have hat := nums_at l
  rw [pQuote_nums]
  generalize nums l = xs at *
  generalize hR : (34 :: (xs.flatMap qNum ++ [34]) : List UInt8) = R
  have HR := hide hR
  have Hnum := hide hnum
  have Hat := hide hat
  clear hnum hat hR
  go_enter Tryd.func23, Tryd.ntmps23
  go_wp2_with fail
  refine (unhide Hnum _).mono ?_
  rintro e w1 ⟨v, rfl, hN, b1⟩
  obtain ⟨p, cap, rfl, hp⟩ := hN
  have Hp := hide hp
  clear hp Hnum
  go_wp2
  go_loopw [3, 9] (fun s i wr => ∃ (j : Nat) (acc : List UInt8), j ≤ xs.length ∧ i = .int .i64 (j : Int) ∧ s = .string (str acc) ∧ acc.length ≤ 1 + 12 * j ∧ Hid (acc = 34 :: (xs.take j).flatMap qNum) ∧ Below w1.heap.size w1 wr) (fun _ i _ => xs.length - (intOf i).toNat)
  case atStart => exact ⟨0, [34], by omega, rfl, rfl, by simp, rfl, Below.refl _ _⟩
  case round =>
    obtain ⟨j, acc, hj, rfl, rfl, hal, hA, hbr⟩ := hrel
    by_cases hlt : j < xs.length
    · have hd : decide (j < xs.length) = true := by simpa using hlt
      have bk : (j : Int) < (xs.length : Int) := by omega
      obtain ⟨g, rfl, hg, hc⟩ := unhide Hp (by intro h0; rw [h0] at hlt; simp at hlt)
      have c : wr.cell? ⟨g, j, none⟩ = some (.int .i64 ((xs.getD j 0 : Nat) : Int)) := by
        rw [hbr.cell (p := ⟨g, j, none⟩) hg]; exact hc j hlt
      have hsn := take_snoc' xs j 0 hlt
      have hxb := unhide Hat j hlt
      have hA2 : 34 :: (xs.take (j + 1)).flatMap qNum = acc ++ qNum (xs.getD j 0) := by
        rw [hsn, unhide hA, List.flatMap_append]; simp
      have hql := qNum_len (xs.getD j 0)
      generalize xs.getD j 0 = x at *
      have HA2 := hide hA2
      clear hsn hc hA hA2
      have bW : Below w.heap.size w wr := b1.trans (hbr.mono b1.size)
      rcases num_cases x with c1 | c1 | c1 | c1 | c1 | c1
      · have hq : qNum x = [92, UInt8.ofNat x] := by unfold qNum; rw [if_pos (by omega)]
        rw [hq] at HA2
        have m1 : (x : Int) % 256 = (x : Int) := by omega
        have hcv := one_conv wr x (by omega)
        have q1 : ((x : Int) == 34) = true := by simp; omega
        generalize UInt8.ofNat x = y at *
        obtain ⟨s1, hs1⟩ : ∃ s1, Hid (acc ++ [92] = s1) := ⟨_, hide rfl⟩
        obtain ⟨s2, hs2⟩ : ∃ s2, Hid (s1 ++ [y] = s2) := ⟨_, hide rfl⟩
        have hl1 : s1.length = acc.length + 1 := by rw [← unhide hs1]; simp
        have hl2 : s2.length = acc.length + 2 := by rw [← unhide hs2]; simp; omega
        have a0 : (⟨#[92]⟩ : ByteArray) = str [92] := rfl
        have a1 : str acc ++ str [92] = str s1 := by rw [append_str, unhide hs1]
        have a2 : str s1 ++ str [y] = str s2 := by rw [append_str, unhide hs2]
        have n1 : ¬ 9223372036854775807 < acc.length + 1 := by omega
        have n2 : ¬ 9223372036854775807 < s1.length + 1 := by omega
        have hal2 : s2.length ≤ 1 + 12 * (j + 1) := by omega
        have HA3 : Hid (s2 = 34 :: (xs.take (j + 1)).flatMap qNum) := by show _ = _; rw [unhide HA2, ← unhide hs2, ← unhide hs1]; simp
        clear hq hql hl1 hl2 hs1 hs2 HA2 c1
        go_wp2
        go_roundw
        case rel => exact ⟨j + 1, s2, by omega, by go_num, rfl, hal2, HA3, hbr.alloc hbr.size _⟩
        case measure => simp [intOf]; omega
      · have hq : qNum x = [92, UInt8.ofNat x] := by unfold qNum; rw [if_pos (by omega)]
        rw [hq] at HA2
        have m1 : (x : Int) % 256 = (x : Int) := by omega
        have hcv := one_conv wr x (by omega)
        have q1 : ((x : Int) == 34) = false := by simp; omega
        have q2 : ((x : Int) == 92) = true := by simp; omega
        generalize UInt8.ofNat x = y at *
        obtain ⟨s1, hs1⟩ : ∃ s1, Hid (acc ++ [92] = s1) := ⟨_, hide rfl⟩
        obtain ⟨s2, hs2⟩ : ∃ s2, Hid (s1 ++ [y] = s2) := ⟨_, hide rfl⟩
        have hl1 : s1.length = acc.length + 1 := by rw [← unhide hs1]; simp
        have hl2 : s2.length = acc.length + 2 := by rw [← unhide hs2]; simp; omega
        have a0 : (⟨#[92]⟩ : ByteArray) = str [92] := rfl
        have a1 : str acc ++ str [92] = str s1 := by rw [append_str, unhide hs1]
        have a2 : str s1 ++ str [y] = str s2 := by rw [append_str, unhide hs2]
        have n1 : ¬ 9223372036854775807 < acc.length + 1 := by omega
        have n2 : ¬ 9223372036854775807 < s1.length + 1 := by omega
        have hal2 : s2.length ≤ 1 + 12 * (j + 1) := by omega
        have HA3 : Hid (s2 = 34 :: (xs.take (j + 1)).flatMap qNum) := by show _ = _; rw [unhide HA2, ← unhide hs2, ← unhide hs1]; simp
        clear hq hql hl1 hl2 hs1 hs2 HA2 c1
        go_wp2
        go_roundw
        case rel => exact ⟨j + 1, s2, by omega, by go_num, rfl, hal2, HA3, hbr.alloc hbr.size _⟩
        case measure => simp [intOf]; omega
      · have hq : qNum x = [UInt8.ofNat x] := by unfold qNum; rw [if_neg (by omega), if_pos (by omega)]
        rw [hq] at HA2
        have m1 : (x : Int) % 256 = (x : Int) := by omega
        have hcv := one_conv wr x (by omega)
        have q1 : ((x : Int) == 34) = false := by simp; omega
        have q2 : ((x : Int) == 92) = false := by simp; omega
        have f1 : decide ((32 : Int) ≤ (x : Int)) = true := by simp; omega
        have f2 : decide ((x : Int) ≤ 126) = true := by simp; omega
        generalize UInt8.ofNat x = y at *
        obtain ⟨s2, hs2⟩ : ∃ s2, Hid (acc ++ [y] = s2) := ⟨_, hide rfl⟩
        have hl2 : s2.length = acc.length + 1 := by rw [← unhide hs2]; simp
        have a2 : str acc ++ str [y] = str s2 := by rw [append_str, unhide hs2]
        have n1 : ¬ 9223372036854775807 < acc.length + 1 := by omega
        have hal2 : s2.length ≤ 1 + 12 * (j + 1) := by omega
        have HA3 : Hid (s2 = 34 :: (xs.take (j + 1)).flatMap qNum) := by show _ = _; rw [unhide HA2, ← unhide hs2]
        clear hq hql hl2 hs2 HA2 c1
        go_wp2
        go_roundw
        case rel => exact ⟨j + 1, s2, by omega, by go_num, rfl, hal2, HA3, hbr.alloc hbr.size _⟩
        case measure => simp [intOf]; omega
      · have f1 : decide ((32 : Int) ≤ (x : Int)) = false := by simp; omega
        have f3 : decide ((2000000 : Int) ≤ (x : Int)) = false := by simp; omega
        have q1 : ((x : Int) == 34) = false := by simp; omega
        have q2 : ((x : Int) == 92) = false := by simp; omega
        have hq : qNum x = [92, 117] ++ pHex x ++ [59] := by unfold qNum; rw [if_neg (by omega), if_neg (by omega), if_neg (by omega)]
        have hz : x < 4294967296 := by omega
        rw [hq] at HA2
        have cH := fun w => rhex_calls x hz w
        have hHl := pHex_length x
        generalize pHex x = H at *
        obtain ⟨s1, hs1⟩ : ∃ s1, Hid (acc ++ [92, 117] = s1) := ⟨_, hide rfl⟩
        obtain ⟨s2, hs2⟩ : ∃ s2, Hid (s1 ++ H = s2) := ⟨_, hide rfl⟩
        obtain ⟨s3, hs3⟩ : ∃ s3, Hid (s2 ++ [59] = s3) := ⟨_, hide rfl⟩
        have hl1 : s1.length = acc.length + 2 := by rw [← unhide hs1]; simp
        have hl2 : s2.length = acc.length + 2 + H.length := by rw [← unhide hs2, List.length_append]; omega
        have hl3 : s3.length = acc.length + 3 + H.length := by rw [← unhide hs3, List.length_append]; show _ + 1 = _; omega
        have a0 : (⟨#[92, 117]⟩ : ByteArray) = str [92, 117] := rfl
        have a9 : (⟨#[59]⟩ : ByteArray) = str [59] := rfl
        have a1 : str acc ++ str [92, 117] = str s1 := by rw [append_str, unhide hs1]
        have a2 : str s1 ++ str H = str s2 := by rw [append_str, unhide hs2]
        have a3 : str s2 ++ str [59] = str s3 := by rw [append_str, unhide hs3]
        have n1 : ¬ 9223372036854775807 < acc.length + 2 := by omega
        have n2 : ¬ 9223372036854775807 < s1.length + H.length := by omega
        have n3 : ¬ 9223372036854775807 < s2.length + 1 := by omega
        have hal2 : s3.length ≤ 1 + 12 * (j + 1) := by omega
        have HA3 : Hid (s3 = 34 :: (xs.take (j + 1)).flatMap qNum) := by show _ = _; rw [unhide HA2, ← unhide hs3, ← unhide hs2, ← unhide hs1]; simp
        have CH := hide cH
        clear hq hql hl1 hl2 hl3 hs1 hs2 hs3 HA2 c1 cH hHl
        go_wp2_with fail
        refine (unhide CH _).mono ?_
        rintro e w2 ⟨rfl, rfl⟩
        go_wp2
        go_roundw
        case rel => exact ⟨j + 1, s3, by omega, by go_num, rfl, hal2, HA3, hbr⟩
        case measure => simp [intOf]; omega
      · have f1 : decide ((32 : Int) ≤ (x : Int)) = true := by simp; omega
        have f2 : decide ((x : Int) ≤ 126) = false := by simp; omega
        have f3 : decide ((2000000 : Int) ≤ (x : Int)) = false := by simp; omega
        have q1 : ((x : Int) == 34) = false := by simp; omega
        have q2 : ((x : Int) == 92) = false := by simp; omega
        have hq : qNum x = [92, 117] ++ pHex x ++ [59] := by unfold qNum; rw [if_neg (by omega), if_neg (by omega), if_neg (by omega)]
        have hz : x < 4294967296 := by omega
        rw [hq] at HA2
        have cH := fun w => rhex_calls x hz w
        have hHl := pHex_length x
        generalize pHex x = H at *
        obtain ⟨s1, hs1⟩ : ∃ s1, Hid (acc ++ [92, 117] = s1) := ⟨_, hide rfl⟩
        obtain ⟨s2, hs2⟩ : ∃ s2, Hid (s1 ++ H = s2) := ⟨_, hide rfl⟩
        obtain ⟨s3, hs3⟩ : ∃ s3, Hid (s2 ++ [59] = s3) := ⟨_, hide rfl⟩
        have hl1 : s1.length = acc.length + 2 := by rw [← unhide hs1]; simp
        have hl2 : s2.length = acc.length + 2 + H.length := by rw [← unhide hs2, List.length_append]; omega
        have hl3 : s3.length = acc.length + 3 + H.length := by rw [← unhide hs3, List.length_append]; show _ + 1 = _; omega
        have a0 : (⟨#[92, 117]⟩ : ByteArray) = str [92, 117] := rfl
        have a9 : (⟨#[59]⟩ : ByteArray) = str [59] := rfl
        have a1 : str acc ++ str [92, 117] = str s1 := by rw [append_str, unhide hs1]
        have a2 : str s1 ++ str H = str s2 := by rw [append_str, unhide hs2]
        have a3 : str s2 ++ str [59] = str s3 := by rw [append_str, unhide hs3]
        have n1 : ¬ 9223372036854775807 < acc.length + 2 := by omega
        have n2 : ¬ 9223372036854775807 < s1.length + H.length := by omega
        have n3 : ¬ 9223372036854775807 < s2.length + 1 := by omega
        have hal2 : s3.length ≤ 1 + 12 * (j + 1) := by omega
        have HA3 : Hid (s3 = 34 :: (xs.take (j + 1)).flatMap qNum) := by show _ = _; rw [unhide HA2, ← unhide hs3, ← unhide hs2, ← unhide hs1]; simp
        have CH := hide cH
        clear hq hql hl1 hl2 hl3 hs1 hs2 hs3 HA2 c1 cH hHl
        go_wp2_with fail
        refine (unhide CH _).mono ?_
        rintro e w2 ⟨rfl, rfl⟩
        go_wp2
        go_roundw
        case rel => exact ⟨j + 1, s3, by omega, by go_num, rfl, hal2, HA3, hbr⟩
        case measure => simp [intOf]; omega
      · have f1 : decide ((32 : Int) ≤ (x : Int)) = true := by simp; omega
        have f2 : decide ((x : Int) ≤ 126) = false := by simp; omega
        have f3 : decide ((2000000 : Int) ≤ (x : Int)) = true := by simp; omega
        have q1 : ((x : Int) == 34) = false := by simp; omega
        have q2 : ((x : Int) == 92) = false := by simp; omega
        have hq : qNum x = [92, 120] ++ pHex (x - 2000000) ++ [59] := by unfold qNum; rw [if_neg (by omega), if_neg (by omega), if_pos (by omega)]
        obtain ⟨z, ez⟩ : ∃ z : Nat, Hid (x - 2000000 = z) := ⟨_, rfl⟩
        rw [unhide ez] at hq
        have fz : (x : Int) - 2000000 = (z : Int) := by have := unhide ez; omega
        have hz : z < 4294967296 := by have := unhide ez; omega
        rw [hq] at HA2
        have cH := fun w => rhex_calls z hz w
        have hHl := pHex_length z
        generalize pHex z = H at *
        obtain ⟨s1, hs1⟩ : ∃ s1, Hid (acc ++ [92, 120] = s1) := ⟨_, hide rfl⟩
        obtain ⟨s2, hs2⟩ : ∃ s2, Hid (s1 ++ H = s2) := ⟨_, hide rfl⟩
        obtain ⟨s3, hs3⟩ : ∃ s3, Hid (s2 ++ [59] = s3) := ⟨_, hide rfl⟩
        have hl1 : s1.length = acc.length + 2 := by rw [← unhide hs1]; simp
        have hl2 : s2.length = acc.length + 2 + H.length := by rw [← unhide hs2, List.length_append]; omega
        have hl3 : s3.length = acc.length + 3 + H.length := by rw [← unhide hs3, List.length_append]; show _ + 1 = _; omega
        have a0 : (⟨#[92, 120]⟩ : ByteArray) = str [92, 120] := rfl
        have a9 : (⟨#[59]⟩ : ByteArray) = str [59] := rfl
        have a1 : str acc ++ str [92, 120] = str s1 := by rw [append_str, unhide hs1]
        have a2 : str s1 ++ str H = str s2 := by rw [append_str, unhide hs2]
        have a3 : str s2 ++ str [59] = str s3 := by rw [append_str, unhide hs3]
        have n1 : ¬ 9223372036854775807 < acc.length + 2 := by omega
        have n2 : ¬ 9223372036854775807 < s1.length + H.length := by omega
        have n3 : ¬ 9223372036854775807 < s2.length + 1 := by omega
        have hal2 : s3.length ≤ 1 + 12 * (j + 1) := by omega
        have HA3 : Hid (s3 = 34 :: (xs.take (j + 1)).flatMap qNum) := by show _ = _; rw [unhide HA2, ← unhide hs3, ← unhide hs2, ← unhide hs1]; simp
        have CH := hide cH
        clear hq hql hl1 hl2 hl3 hs1 hs2 hs3 HA2 c1 cH hHl
        go_wp2_with fail
        refine (unhide CH _).mono ?_
        rintro e w2 ⟨rfl, rfl⟩
        go_wp2
        go_roundw
        case rel => exact ⟨j + 1, s3, by omega, by go_num, rfl, hal2, HA3, hbr⟩
        case measure => simp [intOf]; omega
    · have hd : decide (j < xs.length) = false := by simpa using hlt
      have hA2 := unhide hA
      rw [List.take_of_length_le (by omega)] at hA2
      have hRa : R = acc ++ [34] := by rw [← unhide HR, hA2]; simp
      subst hRa
      have a1 := append_str acc [34]
      have a2 : (⟨#[34]⟩ : ByteArray) = str [34] := rfl
      have n1 : ¬ 9223372036854775807 < acc.length + 1 := by omega
      have bW : Below w.heap.size w wr := b1.trans (hbr.mono b1.size)
      clear hA hA2 HR
      go_wp2
      go_ret
      exact ⟨rfl, bW⟩
end Go.Proofs.YtdkcgiifldhdeaaDoor
