/-
  THE WALK OF THE LAW NameOrders: whatever the three texts, it returns true, and nothing that was there has turned.
-/
import Derived.Test.YtngmcipmmeabmaaDoorNameOrder2
namespace Go.Proofs.YtngmcipmmeabmaaDoor
open Go.RowKit
set_option linter.unusedSimpArgs false
set_option linter.unusedVariables false

theorem ord_range : ∀ xs ys : List Nat, ordN xs ys = -1 ∨ ordN xs ys = 0 ∨ ordN xs ys = 1
  | [], [] => .inr (.inl rfl)
  | [], _ :: _ => .inl rfl
  | _ :: _, [] => .inr (.inr rfl)
  | x :: xs, y :: ys => by
    unfold ordN
    split
    · exact .inl rfl
    · split
      · exact .inr (.inr rfl)
      · exact ord_range xs ys
theorem ord_swap : ∀ xs ys : List Nat, ordN ys xs = -ordN xs ys
  | [], [] => rfl
  | [], _ :: _ => rfl
  | _ :: _, [] => rfl
  | x :: xs, y :: ys => by
    unfold ordN
    by_cases h1 : x < y
    · rw [if_pos h1, if_neg (by omega), if_pos h1]; rfl
    · by_cases h2 : y < x
      · rw [if_pos h2, if_neg h1, if_pos h2]
      · rw [if_neg h1, if_neg h2, if_neg h2, if_neg h1]; exact ord_swap xs ys
theorem ord_zero : ∀ xs ys : List Nat, ordN xs ys = 0 → xs = ys
  | [], [], _ => rfl
  | [], _ :: _, h => by cases h
  | _ :: _, [], h => by cases h
  | x :: xs, y :: ys, h => by
    unfold ordN at h
    split at h
    · cases h
    · split at h
      · cases h
      · rw [show x = y by omega, ord_zero xs ys h]
theorem ord_refl : ∀ xs : List Nat, ordN xs xs = 0
  | [] => rfl
  | x :: xs => by unfold ordN; rw [if_neg (by omega), if_neg (by omega)]; exact ord_refl xs
theorem ord_trans : ∀ xs ys zs : List Nat, ordN xs ys ≤ 0 → ordN ys zs ≤ 0 → ordN xs zs ≤ 0
  | [], ys, [], _, _ => by unfold ordN; omega
  | [], ys, _ :: _, _, _ => by unfold ordN; omega
  | x :: xs, [], zs, h, _ => by unfold ordN at h; omega
  | x :: xs, y :: ys, [], _, h => by unfold ordN at h; omega
  | x :: xs, y :: ys, z :: zs, h1, h2 => by
    unfold ordN at h1 h2 ⊢
    split at h1
    · split at h2
      · rw [if_pos (by omega)]; omega
      · split at h2
        · omega
        · rw [if_pos (by omega)]; omega
    · split at h1
      · omega
      · split at h2
        · rw [if_pos (by omega)]; omega
        · split at h2
          · omega
          · rw [if_neg (by omega), if_neg (by omega)]; exact ord_trans xs ys zs h1 h2
theorem nums_inj : ∀ (n : Nat) (a b : List UInt8), a.length ≤ n → nums a = nums b → a = b
  | 0, a, b, h, e => by
    have : a = [] := List.eq_nil_of_length_eq_zero (by omega)
    subst this
    cases b with
    | nil => rfl
    | cons c b => rw [nums_nil, nums_cons _ (by simp)] at e; cases e
  | n + 1, a, b, h, e => by
    by_cases ha : a = []
    · subst ha
      cases b with
      | nil => rfl
      | cons c b => rw [nums_nil, nums_cons _ (by simp)] at e; cases e
    · by_cases hb : b = []
      · subst hb
        rw [nums_nil, nums_cons _ ha] at e; cases e
      · rw [nums_cons _ ha, nums_cons _ hb] at e
        injection e with e1 e2
        obtain ⟨h1, h2⟩ := num_tok a b ha hb e1
        have hw := Lib.decodeL_width a
        have hla : 0 < a.length := List.length_pos_iff.2 ha
        have e3 := nums_inj n _ _ (by rw [List.length_drop]; omega) e2
        have e4 : a.take (Lib.decodeL a).2 = b.take (Lib.decodeL b).2 := congrArg (·.2) h1
        rw [← List.take_append_drop (Lib.decodeL a).2 a, ← List.take_append_drop (Lib.decodeL b).2 b, e3, e4]
set_option maxHeartbeats 4000000 in
set_option maxRecDepth 100000 in
theorem nameOrders_walk (a b c : List UInt8) (ha : a.length ≤ maxLen) (hb : b.length ≤ maxLen) (hc : c.length ≤ maxLen) (w : World) (tab : Tab16 w) (ut : UTabs w) :
    Calls Tryd.prog 7 #[.string (str a), .string (str b), .string (str c)] w fun e w' => e = .returned (.bool true) ∧ Below w.heap.size w w' := by
  unfold maxLen at ha hb hc
  have HT := hide tab
  have HU := hide ut
  clear tab ut
  by_cases hok : a.length ≤ 2000 ∧ b.length ≤ 2000 ∧ c.length ≤ 2000
  · have d1 : decide ((2000 : Int) < (a.length : Int)) = false := by simp; omega
    have d2 : decide ((2000 : Int) < (b.length : Int)) = false := by simp; omega
    have d3 : decide ((2000 : Int) < (c.length : Int)) = false := by simp; omega
    have cab := fun w hT => order_calls a b (by omega) (by omega) w hT
    have cba := fun w hT => order_calls b a (by omega) (by omega) w hT
    have cbc := fun w hT => order_calls b c (by omega) (by omega) w hT
    have cac := fun w hT => order_calls a c (by omega) (by omega) w hT
    have hsw := ord_swap (nums a) (nums b)
    have hz := ord_zero (nums a) (nums b)
    have htr := ord_trans (nums a) (nums b) (nums c)
    have hrg := ord_range (nums a) (nums b)
    have hrf : a = b → ordN (nums a) (nums b) = 0 := fun h => by rw [h]; exact ord_refl _
    have hinj := nums_inj _ a b (Nat.le_refl _)
    rw [hsw] at cba
    generalize ordN (nums a) (nums b) = o1 at *
    generalize ordN (nums b) (nums c) = o3 at *
    generalize ordN (nums a) (nums c) = o4 at *
    have Cab := hide cab
    have Cba := hide cba
    have Cbc := hide cbc
    have Cac := hide cac
    have Htr := hide htr
    have Hab : Hid (o1 = 0 ↔ a = b) := ⟨fun h => hinj (hz h), hrf⟩
    clear cab cba cbc cac hsw hz htr hrf hinj hok
    go_enter Tryd.func7, Tryd.ntmps7
    go_wp2_with fail
    refine (nawake_calls _ (unhide HT)).mono ?_
    rintro en w1 ⟨rfl, b1⟩
    go_wp2_with fail
    refine (unhide Cab _ ((unhide HU).below' b1)).mono ?_
    rintro en w2 ⟨rfl, hb2⟩
    have b2 := b1.trans (hb2.mono b1.size)
    clear hb2 b1
    go_wp2_with fail
    refine (nawake_calls _ ((unhide HT).below' b2)).mono ?_
    rintro en w3 ⟨rfl, hb3⟩
    have b3 := b2.trans (hb3.mono b2.size)
    clear hb3 b2
    go_wp2_with fail
    refine (unhide Cba _ ((unhide HU).below' b3)).mono ?_
    rintro en w4 ⟨rfl, hb4⟩
    have b4 := b3.trans (hb4.mono b3.size)
    clear hb4 b3
    rcases hrg with rfl | rfl | rfl
    case' inl =>
      have hne : ¬ a = b := fun h => by have := (unhide Hab).2 h; omega
      have hse : ((str a).toList == (str b).toList) = false := by
        rw [ByteArray.toList_eq, ByteArray.toList_eq, str_toList, str_toList]; simpa using hne
      clear hne
      go_wp2_with fail
    case' inr.inl =>
      have hse : ((str a).toList == (str b).toList) = true := by rw [(unhide Hab).1 rfl]; simp
      go_wp2_with fail
    case' inr.inr =>
      have hne : ¬ a = b := fun h => by have := (unhide Hab).2 h; omega
      have hse : ((str a).toList == (str b).toList) = false := by
        rw [ByteArray.toList_eq, ByteArray.toList_eq, str_toList, str_toList]; simpa using hne
      clear hne
      go_wp2
      go_ret
      exact ⟨rfl, b4⟩
    all_goals
      refine (unhide Cbc _ ((unhide HU).below' b4)).mono ?_
      rintro en w5 ⟨rfl, hb5⟩
      have b5 := b4.trans (hb5.mono b4.size)
      clear hb5 b4
      by_cases h3 : 0 < o3
      · have e3 : decide (0 < o3) = true := by simpa using h3
        clear h3
        go_wp2
        go_ret
        exact ⟨rfl, b5⟩
      · have e3 : decide (0 < o3) = false := by simpa using h3
        have e4 : decide (o4 ≤ 0) = true := by simpa using unhide Htr (by omega) (by omega)
        clear h3
        go_wp2_with fail
        refine (unhide Cac _ ((unhide HU).below' b5)).mono ?_
        rintro en w6 ⟨rfl, hb6⟩
        go_wp2
        go_ret
        exact ⟨rfl, b5.trans (hb6.mono b5.size)⟩
  · have hds : Hid ((decide ((2000 : Int) < (a.length : Int)) || decide ((2000 : Int) < (b.length : Int)) || decide ((2000 : Int) < (c.length : Int))) = true) := by
      show _ = true
      simp only [Bool.or_eq_true, decide_eq_true_eq]
      omega
    clear hok
    go_enter Tryd.func7, Tryd.ntmps7
    go_wp2_with fail
    refine (nawake_calls _ (unhide HT)).mono ?_
    rintro en w1 ⟨rfl, b1⟩
    cases d1 : decide ((2000 : Int) < (a.length : Int)) with
    | true =>
      go_wp2_with fail
      refine (nawake_calls _ ((unhide HT).below' b1)).mono ?_
      rintro en w2 ⟨rfl, hb2⟩
      go_wp2
      go_ret
      exact ⟨rfl, b1.trans (hb2.mono b1.size)⟩
    | false =>
    cases d2 : decide ((2000 : Int) < (b.length : Int)) with
    | true =>
      go_wp2_with fail
      refine (nawake_calls _ ((unhide HT).below' b1)).mono ?_
      rintro en w2 ⟨rfl, hb2⟩
      go_wp2
      go_ret
      exact ⟨rfl, b1.trans (hb2.mono b1.size)⟩
    | false =>
    have d3 : decide ((2000 : Int) < (c.length : Int)) = true := by
      have := unhide hds
      rw [d1, d2] at this
      simpa using this
    go_wp2_with fail
    refine (nawake_calls _ ((unhide HT).below' b1)).mono ?_
    rintro en w2 ⟨rfl, hb2⟩
    go_wp2
    go_ret
    exact ⟨rfl, b1.trans (hb2.mono b1.size)⟩
end Go.Proofs.YtngmcipmmeabmaaDoor
