/-
  WHAT THE DOCUMENT'S OWN DECODER OF LAYER 2 RETURNS: the head of the text as runes and strays.
-/
import Derived.Test.YtlanplknendmaaaNameOne2
import Derived.Lib.DecodeNEq
namespace Go.Proofs.Ytlanplknendmaaa
open Go.RowKit
set_option linter.unusedSimpArgs false
set_option linter.unusedVariables false

theorem wi_true {l : List UInt8} {p lo hi : Nat} (h : wi l p lo hi = true) : p < l.length ∧ lo ≤ (l.getD p 0).toNat ∧ (l.getD p 0).toNat ≤ hi := by
  unfold wi at h
  simpa only [Bool.and_eq_true, decide_eq_true_eq] using h
theorem wi_false {l : List UInt8} {p lo hi : Nat} (h : wi l p lo hi = false) : l.length ≤ p ∨ (l.getD p 0).toNat < lo ∨ hi < (l.getD p 0).toNat := by
  unfold wi at h
  simp only [Bool.and_eq_false_iff, decide_eq_false_iff_not] at h
  omega
theorem dec_at (l : List UInt8) (a : Nat) : Lib.decodeL (l.drop a) = Lib.decodeN (l.length - a) (l.getD a 0).toNat (l.getD (a + 1) 0).toNat (l.getD (a + 2) 0).toNat (l.getD (a + 3) 0).toNat := by
  rw [Lib.decodeL_N, List.length_drop, getD_drop', getD_drop', getD_drop', getD_drop', Nat.add_zero]
/-- What it is answered at a place: the number, and how many bytes. -/
def OneIs (l : List UInt8) (a : Nat) (w : World) : Prop :=
  Calls Try.prog 61 #[.string (str l), .int .i64 (a : Int)] w fun e w' => e = .returned (.tuple #[.int .i64 (tokNum (headTok (l.drop a)) : Int), .int .i64 ((Lib.decodeL (l.drop a)).2 : Int)]) ∧ w' = w
theorem one_stray (l : List UInt8) (a b0 : Nat) (hb : (l.getD a 0).toNat = b0) (w : World) (hd : Lib.decodeL (l.drop a) = (65533, 1))
    (h : Calls Try.prog 61 #[.string (str l), .int .i64 (a : Int)] w fun e w' => e = .returned (.tuple #[.int .i64 ((2000000 + b0 : Nat) : Int), .int .i64 1]) ∧ w' = w) : OneIs l a w := by
  unfold OneIs
  rw [tokNum_stray _ hd, hd, getD_drop', Nat.add_zero, hb]
  exact h
theorem one_rune (l : List UInt8) (a v k : Nat) (w : World) (hd : Lib.decodeL (l.drop a) = (v, k)) (hk : k ≠ 1 ∨ v ≠ 65533)
    (h : Calls Try.prog 61 #[.string (str l), .int .i64 (a : Int)] w fun e w' => e = .returned (.tuple #[.int .i64 (v : Int), .int .i64 (k : Int)]) ∧ w' = w) : OneIs l a w := by
  unfold OneIs
  rw [tokNum_rune _ v k hd hk, hd]
  exact h
theorem one_is_B (l : List UInt8) (hl : l.length ≤ 2305843009213693952) (a : Nat) (ha : a < l.length) (hc : (194 ≤ (l.getD a 0).toNat ∧ (l.getD a 0).toNat ≤ 223)) (w : World) : OneIs l a w := by
  have k1 := (l.getD (a + 1) 0).toNat_lt
  have k2 := (l.getD (a + 2) 0).toNat_lt
  have k3 := (l.getD (a + 3) 0).toNat_lt
  have hd := dec_at l a
  rw [← Lib.slow_C2 _ _ _ _ _ (by omega) k1 k2 k3 (by omega)] at hd
  cases h1 : wi l (a + 1) 128 191 with
  | false =>
    have f1 := wi_false h1
    refine one_stray l a _ rfl w (hd.trans ?_) (one_Bs1 l hl a ha _ rfl hc w h1)
    unfold Lib.slowN
    repeat' split
    all_goals first | rfl | (exfalso; omega)
  | true =>
  have t1 := wi_true h1
  refine one_rune l a (vv ((l.getD a 0).toNat % 32) l a 1) 2 w (hd.trans ?_) (.inl (by decide)) (one_Br l hl a ha _ rfl hc w h1)
  unfold Lib.slowN
  repeat' split
  all_goals first | (exfalso; omega) | skip
  all_goals (refine Prod.ext ?_ rfl; simp only [vv, Nat.add_zero, show a + 1 + 1 = a + 2 from rfl, show a + 1 + 2 = a + 3 from rfl] <;> omega)
theorem one_is_C0 (l : List UInt8) (hl : l.length ≤ 2305843009213693952) (a : Nat) (ha : a < l.length) (hc : ((l.getD a 0).toNat = 224)) (w : World) : OneIs l a w := by
  have k1 := (l.getD (a + 1) 0).toNat_lt
  have k2 := (l.getD (a + 2) 0).toNat_lt
  have k3 := (l.getD (a + 3) 0).toNat_lt
  have hd := dec_at l a
  rw [← Lib.slow_E0 _ _ _ _ _ (by omega) k1 k2 k3 (by omega)] at hd
  cases h1 : wi l (a + 1) 160 191 with
  | false =>
    have f1 := wi_false h1
    refine one_stray l a _ rfl w (hd.trans ?_) (one_C0s1 l hl a ha _ rfl hc w h1)
    unfold Lib.slowN
    repeat' split
    all_goals first | rfl | (exfalso; omega)
  | true =>
  have t1 := wi_true h1
  cases h2 : wi l (a + 2) 128 191 with
  | false =>
    have f2 := wi_false h2
    refine one_stray l a _ rfl w (hd.trans ?_) (one_C0s2 l hl a ha _ rfl hc w h1 h2)
    unfold Lib.slowN
    repeat' split
    all_goals first | rfl | (exfalso; omega)
  | true =>
  have t2 := wi_true h2
  refine one_rune l a (vv ((l.getD a 0).toNat % 16) l a 2) 3 w (hd.trans ?_) (.inl (by decide)) (one_C0r l hl a ha _ rfl hc w h1 h2)
  unfold Lib.slowN
  repeat' split
  all_goals first | (exfalso; omega) | skip
  all_goals (refine Prod.ext ?_ rfl; simp only [vv, Nat.add_zero, show a + 1 + 1 = a + 2 from rfl, show a + 1 + 2 = a + 3 from rfl] <;> omega)
theorem one_is_C1 (l : List UInt8) (hl : l.length ≤ 2305843009213693952) (a : Nat) (ha : a < l.length) (hc : ((l.getD a 0).toNat = 237)) (w : World) : OneIs l a w := by
  have k1 := (l.getD (a + 1) 0).toNat_lt
  have k2 := (l.getD (a + 2) 0).toNat_lt
  have k3 := (l.getD (a + 3) 0).toNat_lt
  have hd := dec_at l a
  rw [← Lib.slow_ED _ _ _ _ _ (by omega) k1 k2 k3 (by omega)] at hd
  cases h1 : wi l (a + 1) 128 159 with
  | false =>
    have f1 := wi_false h1
    refine one_stray l a _ rfl w (hd.trans ?_) (one_C1s1 l hl a ha _ rfl hc w h1)
    unfold Lib.slowN
    repeat' split
    all_goals first | rfl | (exfalso; omega)
  | true =>
  have t1 := wi_true h1
  cases h2 : wi l (a + 2) 128 191 with
  | false =>
    have f2 := wi_false h2
    refine one_stray l a _ rfl w (hd.trans ?_) (one_C1s2 l hl a ha _ rfl hc w h1 h2)
    unfold Lib.slowN
    repeat' split
    all_goals first | rfl | (exfalso; omega)
  | true =>
  have t2 := wi_true h2
  refine one_rune l a (vv ((l.getD a 0).toNat % 16) l a 2) 3 w (hd.trans ?_) (.inl (by decide)) (one_C1r l hl a ha _ rfl hc w h1 h2)
  unfold Lib.slowN
  repeat' split
  all_goals first | (exfalso; omega) | skip
  all_goals (refine Prod.ext ?_ rfl; simp only [vv, Nat.add_zero, show a + 1 + 1 = a + 2 from rfl, show a + 1 + 2 = a + 3 from rfl] <;> omega)
theorem one_is_C2 (l : List UInt8) (hl : l.length ≤ 2305843009213693952) (a : Nat) (ha : a < l.length) (hc : ((225 ≤ (l.getD a 0).toNat ∧ (l.getD a 0).toNat ≤ 236) ∨ (238 ≤ (l.getD a 0).toNat ∧ (l.getD a 0).toNat ≤ 239))) (w : World) : OneIs l a w := by
  have k1 := (l.getD (a + 1) 0).toNat_lt
  have k2 := (l.getD (a + 2) 0).toNat_lt
  have k3 := (l.getD (a + 3) 0).toNat_lt
  have hd := dec_at l a
  rw [← Lib.slow_E1 _ _ _ _ _ (by omega) k1 k2 k3 (by omega)] at hd
  cases h1 : wi l (a + 1) 128 191 with
  | false =>
    have f1 := wi_false h1
    refine one_stray l a _ rfl w (hd.trans ?_) (one_C2s1 l hl a ha _ rfl hc w h1)
    unfold Lib.slowN
    repeat' split
    all_goals first | rfl | (exfalso; omega)
  | true =>
  have t1 := wi_true h1
  cases h2 : wi l (a + 2) 128 191 with
  | false =>
    have f2 := wi_false h2
    refine one_stray l a _ rfl w (hd.trans ?_) (one_C2s2 l hl a ha _ rfl hc w h1 h2)
    unfold Lib.slowN
    repeat' split
    all_goals first | rfl | (exfalso; omega)
  | true =>
  have t2 := wi_true h2
  refine one_rune l a (vv ((l.getD a 0).toNat % 16) l a 2) 3 w (hd.trans ?_) (.inl (by decide)) (one_C2r l hl a ha _ rfl hc w h1 h2)
  unfold Lib.slowN
  repeat' split
  all_goals first | (exfalso; omega) | skip
  all_goals (refine Prod.ext ?_ rfl; simp only [vv, Nat.add_zero, show a + 1 + 1 = a + 2 from rfl, show a + 1 + 2 = a + 3 from rfl] <;> omega)
theorem one_is_D0 (l : List UInt8) (hl : l.length ≤ 2305843009213693952) (a : Nat) (ha : a < l.length) (hc : ((l.getD a 0).toNat = 240)) (w : World) : OneIs l a w := by
  have k1 := (l.getD (a + 1) 0).toNat_lt
  have k2 := (l.getD (a + 2) 0).toNat_lt
  have k3 := (l.getD (a + 3) 0).toNat_lt
  have hd := dec_at l a
  rw [← Lib.slow_F0 _ _ _ _ _ (by omega) k1 k2 k3 (by omega)] at hd
  cases h1 : wi l (a + 1) 144 191 with
  | false =>
    have f1 := wi_false h1
    refine one_stray l a _ rfl w (hd.trans ?_) (one_D0s1 l hl a ha _ rfl hc w h1)
    unfold Lib.slowN
    repeat' split
    all_goals first | rfl | (exfalso; omega)
  | true =>
  have t1 := wi_true h1
  cases h2 : wi l (a + 2) 128 191 with
  | false =>
    have f2 := wi_false h2
    refine one_stray l a _ rfl w (hd.trans ?_) (one_D0s2 l hl a ha _ rfl hc w h1 h2)
    unfold Lib.slowN
    repeat' split
    all_goals first | rfl | (exfalso; omega)
  | true =>
  have t2 := wi_true h2
  cases h3 : wi l (a + 3) 128 191 with
  | false =>
    have f3 := wi_false h3
    refine one_stray l a _ rfl w (hd.trans ?_) (one_D0s3 l hl a ha _ rfl hc w h1 h2 h3)
    unfold Lib.slowN
    repeat' split
    all_goals first | rfl | (exfalso; omega)
  | true =>
  have t3 := wi_true h3
  refine one_rune l a (vv ((l.getD a 0).toNat % 8) l a 3) 4 w (hd.trans ?_) (.inl (by decide)) (one_D0r l hl a ha _ rfl hc w h1 h2 h3)
  unfold Lib.slowN
  repeat' split
  all_goals first | (exfalso; omega) | skip
  all_goals (refine Prod.ext ?_ rfl; simp only [vv, Nat.add_zero, show a + 1 + 1 = a + 2 from rfl, show a + 1 + 2 = a + 3 from rfl] <;> omega)
theorem one_is_D1 (l : List UInt8) (hl : l.length ≤ 2305843009213693952) (a : Nat) (ha : a < l.length) (hc : ((l.getD a 0).toNat = 244)) (w : World) : OneIs l a w := by
  have k1 := (l.getD (a + 1) 0).toNat_lt
  have k2 := (l.getD (a + 2) 0).toNat_lt
  have k3 := (l.getD (a + 3) 0).toNat_lt
  have hd := dec_at l a
  rw [← Lib.slow_F4 _ _ _ _ _ (by omega) k1 k2 k3 (by omega)] at hd
  cases h1 : wi l (a + 1) 128 143 with
  | false =>
    have f1 := wi_false h1
    refine one_stray l a _ rfl w (hd.trans ?_) (one_D1s1 l hl a ha _ rfl hc w h1)
    unfold Lib.slowN
    repeat' split
    all_goals first | rfl | (exfalso; omega)
  | true =>
  have t1 := wi_true h1
  cases h2 : wi l (a + 2) 128 191 with
  | false =>
    have f2 := wi_false h2
    refine one_stray l a _ rfl w (hd.trans ?_) (one_D1s2 l hl a ha _ rfl hc w h1 h2)
    unfold Lib.slowN
    repeat' split
    all_goals first | rfl | (exfalso; omega)
  | true =>
  have t2 := wi_true h2
  cases h3 : wi l (a + 3) 128 191 with
  | false =>
    have f3 := wi_false h3
    refine one_stray l a _ rfl w (hd.trans ?_) (one_D1s3 l hl a ha _ rfl hc w h1 h2 h3)
    unfold Lib.slowN
    repeat' split
    all_goals first | rfl | (exfalso; omega)
  | true =>
  have t3 := wi_true h3
  refine one_rune l a (vv ((l.getD a 0).toNat % 8) l a 3) 4 w (hd.trans ?_) (.inl (by decide)) (one_D1r l hl a ha _ rfl hc w h1 h2 h3)
  unfold Lib.slowN
  repeat' split
  all_goals first | (exfalso; omega) | skip
  all_goals (refine Prod.ext ?_ rfl; simp only [vv, Nat.add_zero, show a + 1 + 1 = a + 2 from rfl, show a + 1 + 2 = a + 3 from rfl] <;> omega)
theorem one_is_D2 (l : List UInt8) (hl : l.length ≤ 2305843009213693952) (a : Nat) (ha : a < l.length) (hc : (241 ≤ (l.getD a 0).toNat ∧ (l.getD a 0).toNat ≤ 243)) (w : World) : OneIs l a w := by
  have k1 := (l.getD (a + 1) 0).toNat_lt
  have k2 := (l.getD (a + 2) 0).toNat_lt
  have k3 := (l.getD (a + 3) 0).toNat_lt
  have hd := dec_at l a
  rw [← Lib.slow_F1 _ _ _ _ _ (by omega) k1 k2 k3 (by omega)] at hd
  cases h1 : wi l (a + 1) 128 191 with
  | false =>
    have f1 := wi_false h1
    refine one_stray l a _ rfl w (hd.trans ?_) (one_D2s1 l hl a ha _ rfl hc w h1)
    unfold Lib.slowN
    repeat' split
    all_goals first | rfl | (exfalso; omega)
  | true =>
  have t1 := wi_true h1
  cases h2 : wi l (a + 2) 128 191 with
  | false =>
    have f2 := wi_false h2
    refine one_stray l a _ rfl w (hd.trans ?_) (one_D2s2 l hl a ha _ rfl hc w h1 h2)
    unfold Lib.slowN
    repeat' split
    all_goals first | rfl | (exfalso; omega)
  | true =>
  have t2 := wi_true h2
  cases h3 : wi l (a + 3) 128 191 with
  | false =>
    have f3 := wi_false h3
    refine one_stray l a _ rfl w (hd.trans ?_) (one_D2s3 l hl a ha _ rfl hc w h1 h2 h3)
    unfold Lib.slowN
    repeat' split
    all_goals first | rfl | (exfalso; omega)
  | true =>
  have t3 := wi_true h3
  refine one_rune l a (vv ((l.getD a 0).toNat % 8) l a 3) 4 w (hd.trans ?_) (.inl (by decide)) (one_D2r l hl a ha _ rfl hc w h1 h2 h3)
  unfold Lib.slowN
  repeat' split
  all_goals first | (exfalso; omega) | skip
  all_goals (refine Prod.ext ?_ rfl; simp only [vv, Nat.add_zero, show a + 1 + 1 = a + 2 from rfl, show a + 1 + 2 = a + 3 from rfl] <;> omega)
theorem one_calls (l : List UInt8) (hl : l.length ≤ 2305843009213693952) (a : Nat) (ha : a < l.length) (w : World) : OneIs l a w := by
  have hb := (l.getD a 0).toNat_lt
  by_cases hA : (l.getD a 0).toNat < 128
  · exact one_rune l a _ 1 w ((dec_at l a).trans (Lib.decodeN_ascii _ _ _ _ _ hA)) (.inr (by omega)) (one_A l hl a ha _ rfl hA w)
  · by_cases hE : (l.getD a 0).toNat ≤ 193
    · exact one_stray l a _ rfl w ((dec_at l a).trans (Lib.bad_eq _ _ _ _ _ hb (by unfold Lib.firstT; rw [if_neg (by omega), if_pos (by omega)]))) (one_E1 l hl a ha _ rfl ⟨by omega, hE⟩ w)
    · by_cases hE2 : 245 ≤ (l.getD a 0).toNat
      · exact one_stray l a _ rfl w ((dec_at l a).trans (Lib.bad_eq _ _ _ _ _ hb (by unfold Lib.firstT; rw [if_neg (by omega), if_neg (by omega), if_neg (by omega), if_neg (by omega), if_neg (by omega), if_neg (by omega), if_neg (by omega), if_neg (by omega), if_neg (by omega), if_neg (by omega)]))) (one_E2 l hl a ha _ rfl hE2 w)
      · by_cases hB : (l.getD a 0).toNat ≤ 223
        · exact one_is_B l hl a ha ⟨by omega, hB⟩ w
        · by_cases hC0 : (l.getD a 0).toNat = 224
          · exact one_is_C0 l hl a ha hC0 w
          · by_cases hC1 : (l.getD a 0).toNat = 237
            · exact one_is_C1 l hl a ha hC1 w
            · by_cases hC2 : (l.getD a 0).toNat ≤ 239
              · exact one_is_C2 l hl a ha (by omega) w
              · by_cases hD0 : (l.getD a 0).toNat = 240
                · exact one_is_D0 l hl a ha hD0 w
                · by_cases hD1 : (l.getD a 0).toNat = 244
                  · exact one_is_D1 l hl a ha hD1 w
                  · exact one_is_D2 l hl a ha ⟨by omega, by omega⟩ w
end Go.Proofs.Ytlanplknendmaaa
