/-
  THE DOCUMENT'S Push, Through, Trim, Ahead OF LAYER 15.
-/
import Derived.Test.YtljocohbdghpaaaQueF
namespace Go.Proofs.Ytljocohbdghpaaa
open Go Go.RowKit
set_option linter.unusedSimpArgs false
set_option linter.unusedVariables false

set_option maxHeartbeats 1000000 in
set_option maxRecDepth 100000 in
theorem rahead_calls (xs : List Int) (hn : xs.length ≤ 1000000) (x y : Int) (p : Option Addr) (c : Nat) (w : World) (hB : VL w p (xs.map enI)) :
    Calls Try.prog 17 #[.slice p xs.length c, .int .i64 x, .int .i64 y] w fun e w' => e = .returned (.bool (decide (0 ≤ pAt x xs) && decide (pAt x xs < pAt y xs))) ∧ Below w.heap.size w w' := by
  have k := hide (rat_calls xs hn x p c w hB)
  have k2 := hide (fun W (h : VL W p (xs.map enI)) => rat_calls xs hn y p c W h)
  have HB := hide hB
  generalize xs.length = n at *
  generalize pAt x xs = R at *
  generalize pAt y xs = Q at *
  clear hB hn
  by_cases hR : 0 ≤ R
  · have hd : decide (0 ≤ R) = true := decide_eq_true hR
    rw [hd, Bool.true_and]
    have hx : Hid ((decide (0 ≤ Q) && decide (R < Q)) = decide (R < Q)) := by
      show (decide (0 ≤ Q) && decide (R < Q)) = decide (R < Q)
      by_cases h : R < Q
      · rw [decide_eq_true h, decide_eq_true (by omega : 0 ≤ Q)]; rfl
      · rw [decide_eq_false h, Bool.and_false]
    rw [← unhide hx]
    clear hR hx
    by_cases hQ : 0 ≤ Q
    · have hd2 : decide (0 ≤ Q) = true := decide_eq_true hQ
      rw [hd2, Bool.true_and]
      clear hQ
      go_enter Try.func17, Try.ntmps17
      go_wp2_with fail
      refine (unhide k).mono ?_
      rintro e w1 ⟨rfl, b1⟩
      clear k
      have V1 := hide ((unhide HB).below b1 (Nat.le_refl _))
      go_wp2_with fail
      refine (unhide k2 _ (unhide V1)).mono ?_
      rintro e w2 ⟨rfl, b2⟩
      have b3 := b1.trans (b2.mono b1.size)
      clear b1 b2 V1 k2
      go_wp2
      go_ret
      exact ⟨rfl, b3⟩
    · have hd2 : decide (0 ≤ Q) = false := decide_eq_false hQ
      rw [hd2, Bool.false_and]
      clear hQ
      go_enter Try.func17, Try.ntmps17
      go_wp2_with fail
      refine (unhide k).mono ?_
      rintro e w1 ⟨rfl, b1⟩
      clear k
      have V1 := hide ((unhide HB).below b1 (Nat.le_refl _))
      go_wp2_with fail
      refine (unhide k2 _ (unhide V1)).mono ?_
      rintro e w2 ⟨rfl, b2⟩
      have b3 := b1.trans (b2.mono b1.size)
      clear b1 b2 V1 k2
      go_wp2
      go_ret
      exact ⟨rfl, b3⟩
  · have hd : decide (0 ≤ R) = false := decide_eq_false hR
    rw [hd, Bool.false_and]
    clear hR
    go_enter Try.func17, Try.ntmps17
    go_wp2_with fail
    refine (unhide k).mono ?_
    rintro e w1 ⟨rfl, b1⟩
    clear k
    have V1 := hide ((unhide HB).below b1 (Nat.le_refl _))
    go_wp2_with fail
    refine (unhide k2 _ (unhide V1)).mono ?_
    rintro e w2 ⟨rfl, b2⟩
    have b3 := b1.trans (b2.mono b1.size)
    clear b1 b2 V1 k2
    go_wp2
    go_ret
    exact ⟨rfl, b3⟩
set_option maxHeartbeats 1000000 in
set_option maxRecDepth 100000 in
theorem rpush_calls (xs : List Int) (hn : xs.length ≤ 1000000) (x : Int) (m : Int) (p : Option Addr) (c : Nat) (hpc : p = none → c = 0) (w : World) (hB : VL w p (xs.map enI)) :
    Calls Try.prog 9 #[.slice p xs.length c, .int .i64 x, .int .i64 m] w fun e w' => (∃ v, e = .returned (.tuple #[v, .int .i64 (pPushE xs.length m)]) ∧ w'.ownsRow w.heap.size 3 1 v (pPushL xs x m).length ((pPushL xs x m).map enI)) ∧ Below w.heap.size w w' := by
  cases p with
  | none =>
    have h0 : xs = [] := by
      cases hBe : xs with
      | nil => rfl
      | cons x l =>
        obtain ⟨b, off, e, _⟩ := hB (by rw [hBe]; simp)
        cases e
    subst h0
    obtain rfl := hpc rfl
    by_cases hm : m ≤ ((([] : List Int).length : Nat) : Int)
    · unfold pPushL pPushE
      rw [if_pos hm, if_pos hm]
      have hm' : m ≤ 0 := by simpa using hm
      have hd : decide (m ≤ 0) = true := decide_eq_true hm'
      clear hm hB hn hpc hm'
      rw [List.length_nil, List.map_nil]
      go_enter Try.func9, Try.ntmps9
      go_wp2
      go_ret2
      exact ⟨⟨_, rfl, World.ownsRow_nil _ _ _ _⟩, Below.refl _ _⟩
    · unfold pPushL pPushE
      rw [if_neg hm, if_neg hm]
      have hm' : ¬ m ≤ 0 := by simpa using hm
      have hd : decide (m ≤ 0) = false := decide_eq_false hm'
      have h1 := oneI x
      have V1 := hide (VL_one w (enI x) 3)
      have bb := (Below.refl w.heap.size w).alloc (Nat.le_refl _) (.cells #[enI x] 3)
      have q1 := (World.ownsRow_nil w w.heap.size 3 1).alloc (.cells #[enI x] 3)
      clear hm hB hn hpc hm'
      simp only [enI] at *
      rw [List.nil_append, List.length_singleton, List.map_cons, List.map_nil]
      have HA := hide (fun (v : Value) (W : World) (h : W.ownsRow w.heap.size 3 1 v (0 + 1) ([] ++ [Value.int .i64 x])) => (by simpa using h : W.ownsRow w.heap.size 3 1 v 1 [Value.int .i64 x]))
      go_enter Try.func9, Try.ntmps9
      go_wp2_with (at_builtin; (refine wpList_append_v _ rfl 22 3 (.tmp 17) (.tmp 19) rfl Try.underlying22 infoI (by decide) w.heap.size _ 0 [] rfl q1 (by rw [World.size_alloc]; omega) [_] 1 rfl (fun u hu => by simp at hu; subst hu; exact h1) ⟨w.heap.size, 0, none⟩ 1 (unhide V1) rfl (by omega) ?_); intro v' w3 hown hb3)
      go_ret2
      exact ⟨⟨_, rfl, unhide HA _ _ hown⟩, bb.trans hb3⟩
  | some ad =>
    have HA := hide (fun (v : Value) (W : World) (h : W.ownsRow w.heap.size 3 1 v (0 + xs.length) ([] ++ xs.map enI)) => (by simpa using h : W.ownsRow w.heap.size 3 1 v xs.length (xs.map enI)))
    have HN := hide (show (xs.map enI).length = xs.length from List.length_map _)
    have HO := hide (show ∀ u ∈ xs.map enI, One u from fun u hu => by obtain ⟨y, _, rfl⟩ := List.mem_map.1 hu; exact oneI y)
    have HB := hide hB
    by_cases hm : m ≤ (xs.length : Int)
    · have hd : decide (m ≤ (xs.length : Int)) = true := decide_eq_true hm
      unfold pPushL pPushE
      rw [if_pos hm, if_pos hm]
      generalize xs.map enI = L at *
      generalize xs.length = n at *
      clear hB hm hpc
      go_enter Try.func9, Try.ntmps9
      go_wp2_with (at_builtin; (refine wpList_append_v _ rfl 22 3 (.tmp 9) (.tmp 10) rfl Try.underlying22 infoI (by decide) w.heap.size _ 0 [] rfl (World.ownsRow_nil _ _ _ _) (Nat.le_refl _) L n (unhide HN) (unhide HO) ad c (unhide HB) rfl (by omega) ?_); intro v' w1 hown hb1)
      go_ret2
      exact ⟨⟨v', rfl, unhide HA _ _ hown⟩, hb1⟩
    · have hd : decide (m ≤ (xs.length : Int)) = false := decide_eq_false hm
      unfold pPushL pPushE
      rw [if_neg hm, if_neg hm, List.length_append, List.map_append, List.map_cons, List.map_nil, List.length_singleton]
      generalize xs.map enI = L at *
      generalize xs.length = n at *
      have h1 := oneI x
      simp only [enI] at *
      clear hB hm hpc
      go_enter Try.func9, Try.ntmps9
      go_wp2_with (at_builtin; first | ((refine wpList_append_v _ rfl 22 3 (.tmp 9) (.tmp 10) rfl Try.underlying22 infoI (by decide) w.heap.size _ 0 [] rfl (World.ownsRow_nil _ _ _ _) (Nat.le_refl _) L n (unhide HN) (unhide HO) ad c (unhide HB) rfl (by omega) ?_); intro v' w1 hown hb1) | ((refine wpList_append_v _ rfl 22 3 (.tmp 17) (.tmp 19) rfl Try.underlying22 infoI (by decide) w.heap.size v' n L rfl ((unhide HA _ _ hown).alloc _) (by rw [World.size_alloc]; have := hb1.size; omega) [_] 1 rfl (fun u hu => by simp at hu; subst hu; exact h1) ⟨w1.heap.size, 0, none⟩ 1 (VL_one w1 _ _) rfl (by omega) ?_); intro v2 w3 hown3 hb3))
      go_ret2
      exact ⟨⟨v2, rfl, hown3⟩, (hb1.alloc hb1.size _).trans hb3⟩
set_option maxHeartbeats 1000000 in
set_option maxRecDepth 100000 in
theorem rthrough_calls (xs : List Int) (hn : xs.length ≤ 1000000) (x : Int) (p : Option Addr) (c : Nat) (w : World) (hB : VL w p (xs.map enI)) :
    Calls Try.prog 11 #[.slice p xs.length c, .int .i64 x] w fun e w' => (∃ v, e = .returned (.tuple #[v, .bool (decide (x ∈ xs))]) ∧ w'.ownsRow w.heap.size 3 1 v (pThr x xs).length ((pThr x xs).map enI)) ∧ Below w.heap.size w w' := by
  have k := hide (rat_calls xs hn x p c w hB)
  have HB := hide hB
  obtain ⟨j0, hj0, hthr⟩ : ∃ j0 : Nat, pAt x xs = (j0 : Int) - 1 ∧ pThr x xs = xs.drop j0 := by
    unfold pAt pThr
    by_cases hm : x ∈ xs
    · exact ⟨ixO x xs + 1, by rw [if_pos hm]; omega, by rw [if_pos hm]⟩
    · exact ⟨0, by rw [if_neg hm]; rfl, by rw [if_neg hm]; rfl⟩
  have e1 : decide (0 ≤ (j0 : Int) - 1) = decide (x ∈ xs) := by have := pAt_neg x xs; rw [hj0] at this; (by_cases hm : x ∈ xs); rotate_left; (exact (decide_eq_false (by have := this.2 hm; omega)).trans (decide_eq_false hm).symm); exact (decide_eq_true (Int.not_lt.1 fun h => this.1 h hm)).trans (decide_eq_true hm).symm
  have E1 := hide e1
  rw [hj0] at k
  rw [hthr]
  obtain ⟨n, hnn⟩ : ∃ n, xs.length = n := ⟨_, rfl⟩
  rw [hnn] at hn k ⊢
  have HN := hide hnn
  obtain ⟨R, hR⟩ : ∃ R : Int, (j0 : Int) - 1 = R := ⟨_, rfl⟩
  have HR := hide hR
  rw [hR] at k E1
  clear hB hnn hj0 hthr e1 hR
  go_enter Try.func11, Try.ntmps11
  go_wp2_with fail
  refine (unhide k).mono ?_
  rintro e w1 ⟨rfl, b1⟩
  clear k
  go_wp2
  go_loopw [7, 8, 14] (fun o i5 i wr => ∃ j : Nat, j ≤ n ∧ i = .int .i64 (j : Int) ∧ Below w.heap.size w wr ∧ wr.ownsRow w.heap.size 3 1 o ((xs.take j).drop j0).length (((xs.take j).drop j0).map enI)) (fun _ _ i _ => n - (intOf i).toNat)
  case atStart => exact ⟨0, by omega, rfl, b1, by simpa using World.ownsRow_nil _ _ _ _⟩
  case round =>
    obtain ⟨j, hj, rfl, hb, hown⟩ := hrel
    clear b1
    by_cases hlt : j < n
    · have hd : decide (j < n) = true := by simpa using hlt
      have bk : (j : Int) < (n : Int) := by omega
      by_cases hjj : j0 ≤ j
      · have hdj : decide (R < (j : Int)) = true := decide_eq_true (by have := unhide HR; omega)
        have hl : j < (xs.map enI).length := by rw [List.length_map, unhide HN]; exact hlt
        obtain ⟨b, off, rfl, hzb, hbr⟩ := (unhide HB).below hb (Nat.le_refl _) (by intro h0; rw [h0] at hl; simp at hl)
        have hr0 := hbr j hl
        obtain ⟨y, hy⟩ : ∃ y, xs[j]? = some y := ⟨_, List.getElem?_eq_getElem (by rw [unhide HN]; exact hlt)⟩
        rw [List.getElem?_map, hy, Option.map_some] at hr0
        have ht : (xs.take (j + 1)).drop j0 = (xs.take j).drop j0 ++ [y] := by
          rw [List.take_add_one, hy, Option.toList_some, List.drop_append_of_le_length (by rw [List.length_take, unhide HN]; omega)]
        have ht2 : ((xs.take (j + 1)).drop j0).map enI = ((xs.take j).drop j0).map enI ++ [enI y] := by rw [ht, List.map_append]; rfl
        have ht1 : ((xs.take (j + 1)).drop j0).length = ((xs.take j).drop j0).length + 1 := by rw [ht, List.length_append]; rfl
        have HT2 := hide ht2
        have HT1 := hide ht1
        have h1 := oneI y
        have hs := hb.size
        have hle : ((xs.take j).drop j0).length ≤ 1000000 := by rw [List.length_drop, List.length_take]; omega
        generalize ((xs.take j).drop j0).length = G at *
        generalize ((xs.take j).drop j0).map enI = D at *
        have V1 := hide (VL_one wr (enI y) 3)
        have bb := hb.alloc hb.size (.cells #[enI y] 3)
        simp only [enI] at hr0 h1 V1 bb
        clear hbr hy hzb hl ht ht1 ht2
        go_wp2_with (at_builtin; ((refine wpList_append_v _ rfl 22 3 (.tmp 20) (.tmp 25) rfl Try.underlying22 infoI (by decide) w.heap.size _ G D rfl (hown.alloc _) (by rw [World.size_alloc]; omega) [_] 1 rfl (fun u hu => by simp at hu; subst hu; exact h1) ⟨wr.heap.size, 0, none⟩ 1 (unhide V1) rfl (by omega) ?_); intro v2 w3 hown3 hb3))
        go_roundw
        case rel => exact ⟨j + 1, by omega, by go_num, bb.trans hb3, by rw [unhide HT1, unhide HT2]; exact hown3⟩
        case measure => simp [intOf]; omega
      · have hdj : decide (R < (j : Int)) = false := decide_eq_false (by have := unhide HR; omega)
        have ht : (xs.take (j + 1)).drop j0 = (xs.take j).drop j0 := by
          rw [List.drop_eq_nil_of_le (by rw [List.length_take]; omega), List.drop_eq_nil_of_le (by rw [List.length_take]; omega)]
        have HT := hide ht
        clear ht
        go_wp2
        go_roundw
        case rel => exact ⟨j + 1, by omega, by go_num, hb, by rw [unhide HT]; exact hown⟩
        case measure => simp [intOf]; omega
    · have hd : decide (j < n) = false := by simpa using hlt
      have hjn : j = n := by omega
      have HO := hide (show wr.ownsRow w.heap.size 3 1 _ (xs.drop j0).length ((xs.drop j0).map enI) by rw [hjn, ← unhide HN, List.take_length] at hown; exact hown)
      clear hjn hown
      go_wp2
      go_ret2
      exact ⟨⟨_, by rw [← unhide E1]; rfl, unhide HO⟩, hb⟩
set_option maxHeartbeats 1000000 in
set_option maxRecDepth 100000 in
theorem rtrim_calls (xs : List Int) (hn : xs.length ≤ 1000000) (m : Int) (hm : -9223372036854775808 ≤ m) (hm2 : m ≤ 9223372036854775807) (p : Option Addr) (c : Nat) (w : World) (hB : VL w p (xs.map enI)) :
    Calls Try.prog 19 #[.slice p xs.length c, .int .i64 m] w fun e w' => (∃ v, e = .returned v ∧ w'.ownsRow w.heap.size 3 1 v (pTrim xs m).length ((pTrim xs m).map enI)) ∧ Below w.heap.size w w' := by
  have HB := hide hB
  obtain ⟨j0, hj0⟩ : ∃ j0 : Nat, xs.length - m.toNat = j0 := ⟨_, rfl⟩
  unfold pTrim
  rw [hj0]
  obtain ⟨n, hnn⟩ : ∃ n, xs.length = n := ⟨_, rfl⟩
  rw [hnn] at hn hj0
  have HN := hide hnn
  have HR := hide hj0
  clear hB hnn hj0
  go_enter Try.func19, Try.ntmps19
  rw [unhide HN]
  go_wp2
  go_loopw [5, 6, 9] (fun o i5 i wr => ∃ j : Nat, j ≤ n ∧ i = .int .i64 (j : Int) ∧ Below w.heap.size w wr ∧ wr.ownsRow w.heap.size 3 1 o ((xs.take j).drop j0).length (((xs.take j).drop j0).map enI)) (fun _ _ i _ => n - (intOf i).toNat)
  case atStart => exact ⟨0, by omega, rfl, Below.refl _ _, by simpa using World.ownsRow_nil _ _ _ _⟩
  case round =>
    obtain ⟨j, hj, rfl, hb, hown⟩ := hrel
    by_cases hlt : j < n
    · have hd : decide (j < n) = true := by simpa using hlt
      have bk : (j : Int) < (n : Int) := by omega
      by_cases hjj : j0 ≤ j
      · have hdj : decide ((0 : Int) < m) = true := decide_eq_true (by have := unhide HR; omega)
        have hdk : decide ((n : Int) - (j : Int) ≤ m) = true := decide_eq_true (by have := unhide HR; omega)
        have hl : j < (xs.map enI).length := by rw [List.length_map, unhide HN]; exact hlt
        obtain ⟨b, off, rfl, hzb, hbr⟩ := (unhide HB).below hb (Nat.le_refl _) (by intro h0; rw [h0] at hl; simp at hl)
        have hr0 := hbr j hl
        obtain ⟨y, hy⟩ : ∃ y, xs[j]? = some y := ⟨_, List.getElem?_eq_getElem (by rw [unhide HN]; exact hlt)⟩
        rw [List.getElem?_map, hy, Option.map_some] at hr0
        have ht : (xs.take (j + 1)).drop j0 = (xs.take j).drop j0 ++ [y] := by
          rw [List.take_add_one, hy, Option.toList_some, List.drop_append_of_le_length (by rw [List.length_take, unhide HN]; omega)]
        have ht2 : ((xs.take (j + 1)).drop j0).map enI = ((xs.take j).drop j0).map enI ++ [enI y] := by rw [ht, List.map_append]; rfl
        have ht1 : ((xs.take (j + 1)).drop j0).length = ((xs.take j).drop j0).length + 1 := by rw [ht, List.length_append]; rfl
        have HT2 := hide ht2
        have HT1 := hide ht1
        have h1 := oneI y
        have hs := hb.size
        have hle : ((xs.take j).drop j0).length ≤ 1000000 := by rw [List.length_drop, List.length_take]; omega
        generalize ((xs.take j).drop j0).length = G at *
        generalize ((xs.take j).drop j0).map enI = D at *
        have V1 := hide (VL_one wr (enI y) 3)
        have bb := hb.alloc hb.size (.cells #[enI y] 3)
        simp only [enI] at hr0 h1 V1 bb
        clear hbr hy hzb hl ht ht1 ht2
        go_wp2_with (at_builtin; ((refine wpList_append_v _ rfl 22 3 (.tmp 22) (.tmp 27) rfl Try.underlying22 infoI (by decide) w.heap.size _ G D rfl (hown.alloc _) (by rw [World.size_alloc]; omega) [_] 1 rfl (fun u hu => by simp at hu; subst hu; exact h1) ⟨wr.heap.size, 0, none⟩ 1 (unhide V1) rfl (by omega) ?_); intro v2 w3 hown3 hb3))
        go_roundw
        case rel => exact ⟨j + 1, by omega, by go_num, bb.trans hb3, by rw [unhide HT1, unhide HT2]; exact hown3⟩
        case measure => simp [intOf]; omega
      · have ht : (xs.take (j + 1)).drop j0 = (xs.take j).drop j0 := by
          rw [List.drop_eq_nil_of_le (by rw [List.length_take]; omega), List.drop_eq_nil_of_le (by rw [List.length_take]; omega)]
        have HT := hide ht
        clear ht
        by_cases h0 : 0 < m
        · have hdj : decide ((0 : Int) < m) = true := decide_eq_true h0
          have hdk : decide ((n : Int) - (j : Int) ≤ m) = false := decide_eq_false (by have := unhide HR; omega)
          clear h0
          go_wp2
          go_roundw
          case rel => exact ⟨j + 1, by omega, by go_num, hb, by rw [unhide HT]; exact hown⟩
          case measure => simp [intOf]; omega
        · have hdj : decide ((0 : Int) < m) = false := decide_eq_false h0
          clear h0
          go_wp2
          go_roundw
          case rel => exact ⟨j + 1, by omega, by go_num, hb, by rw [unhide HT]; exact hown⟩
          case measure => simp [intOf]; omega
    · have hd : decide (j < n) = false := by simpa using hlt
      have hjn : j = n := by omega
      have HO := hide (show wr.ownsRow w.heap.size 3 1 _ (xs.drop j0).length ((xs.drop j0).map enI) by rw [hjn, ← unhide HN, List.take_length] at hown; exact hown)
      clear hjn hown
      go_wp2
      go_ret
      exact ⟨⟨_, rfl, unhide HO⟩, hb⟩
end Go.Proofs.Ytljocohbdghpaaa
