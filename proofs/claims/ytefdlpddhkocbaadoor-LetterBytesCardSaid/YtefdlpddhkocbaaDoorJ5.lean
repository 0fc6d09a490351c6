/-
  WHAT THE DOCUMENT'S OWN DECODER OF LAYER 2 RETURNS: the head of the text as runes and strays.
-/
/-
  WHAT THE DOCUMENT'S OWN Numbers OF LAYER 2 RETURNS: a new list of what the runes and strays count as.
-/
/-
  WHAT THE DOCUMENT'S OWN Numbers, Count, Right, Says OF LAYER 2 RETURN.
-/
/-
  WHAT THE DOCUMENT'S OWN Count, Right, Says OF LAYER 2 RETURN: what name's own answer.
-/
/-
  WHAT THE DOCUMENT'S OWN Right, Says OF LAYER 2 RETURN: what name's own answer.
-/
/-
  THE DOCUMENT's OWN LETTERS (layer 9): Right, Plain, Read, Same; a letter's leaf, the program's and the document's, where there is no log.
-/
/-
  THE DOCUMENT's Plain AND Same OF LETTERS; a letter's leaf, the program's and the document's, where there is no log.
-/
/-
  A LETTER's LEAF, the program's and the document's, where there is no log.
-/
/-
  == OF A DIGEST WITH ITSELF.
-/
/-
  A ROW LOADED WHOLE INSIDE A REGION THAT DRAWS ITS ORDER, as a step of the quiet walk. Over whatever program.
-/
/-
  A PART OF A ROW LOADED INSIDE A REGION THAT DRAWS ITS ORDER, as a step of the quiet walk. Over whatever program.
-/
/-
  A ROW STORED INTO A BLOCK THAT WAS JUST MADE: the world behind it is a letter of which all is known. Over whatever program.
-/
import Derived.Test.YtefdlpddhkocbaaDoorJ4
import Derived.Lib.DecodeNEq
import Derived.Laws.AppendOwn
import Derived.Laws.OwnMore
import Derived.Test.YtefdlpddhkocbaaDoorJ1
import Derived.Test.YtefdlpddhkocbaaDoorJ3
import Derived.Test.YtefdlpddhkocbaaDoorJ0
import Derived.Laws.Rows
import Derived.Deep.MidRow
import Derived.Laws.StructEq
namespace Go.Proofs.YtefdlpddhkocbaaDoor
open Go.RowKit
set_option linter.unusedSimpArgs false
set_option linter.unusedVariables false

theorem wi_true {l : List UInt8} {p lo hi : Nat} (h : wi l p lo hi = true) : p < l.length ∧ lo ≤ (l.getD p 0).toNat ∧ (l.getD p 0).toNat ≤ hi := by
  unfold wi at h
  simpa only [Bool.and_eq_true, decide_eq_true_eq] using h
theorem wi_false {l : List UInt8} {p lo hi : Nat} (h : wi l p lo hi = false) : l.length ≤ p ∨ (l.getD p 0).toNat < lo ∨ hi < (l.getD p 0).toNat := by
  unfold wi at h
  simp only [Bool.and_eq_false_iff, decide_eq_false_iff_not] at h
  omega
theorem dec_at (l : List UInt8) (a : Nat) : Lib.decodeL (l.drop a) = Lib.decodeN (l.length - a) (l.getD a 0).toNat (l.getD (a + 1) 0).toNat (l.getD (a + 2) 0).toNat (l.getD (a + 3) 0).toNat := by
  rw [Lib.decodeL_N, List.length_drop, getD_drop', getD_drop', getD_drop', getD_drop', Nat.add_zero]
/-- What it is answered at a place: the number, and how many bytes. -/
def OneIs (l : List UInt8) (a : Nat) (w : World) : Prop :=
  Calls Tryd.prog 51 #[.string (str l), .int .i64 (a : Int)] w fun e w' => e = .returned (.tuple #[.int .i64 (tokNum (headTok (l.drop a)) : Int), .int .i64 ((Lib.decodeL (l.drop a)).2 : Int)]) ∧ w' = w
theorem one_stray (l : List UInt8) (a b0 : Nat) (hb : (l.getD a 0).toNat = b0) (w : World) (hd : Lib.decodeL (l.drop a) = (65533, 1))
    (h : Calls Tryd.prog 51 #[.string (str l), .int .i64 (a : Int)] w fun e w' => e = .returned (.tuple #[.int .i64 ((2000000 + b0 : Nat) : Int), .int .i64 1]) ∧ w' = w) : OneIs l a w := by
  unfold OneIs
  rw [tokNum_stray _ hd, hd, getD_drop', Nat.add_zero, hb]
  exact h
theorem one_rune (l : List UInt8) (a v k : Nat) (w : World) (hd : Lib.decodeL (l.drop a) = (v, k)) (hk : k ≠ 1 ∨ v ≠ 65533)
    (h : Calls Tryd.prog 51 #[.string (str l), .int .i64 (a : Int)] w fun e w' => e = .returned (.tuple #[.int .i64 (v : Int), .int .i64 (k : Int)]) ∧ w' = w) : OneIs l a w := by
  unfold OneIs
  rw [tokNum_rune _ v k hd hk, hd]
  exact h
theorem one_is_B (l : List UInt8) (hl : l.length ≤ 2305843009213693952) (a : Nat) (ha : a < l.length) (hc : (194 ≤ (l.getD a 0).toNat ∧ (l.getD a 0).toNat ≤ 223)) (w : World) : OneIs l a w := by
  have k1 := (l.getD (a + 1) 0).toNat_lt
  have k2 := (l.getD (a + 2) 0).toNat_lt
  have k3 := (l.getD (a + 3) 0).toNat_lt
  have hd := dec_at l a
  rw [← Lib.slow_C2 _ _ _ _ _ (by omega) k1 k2 k3 (by omega)] at hd
  cases h1 : wi l (a + 1) 128 191 with
  | false =>
    have f1 := wi_false h1
    refine one_stray l a _ rfl w (hd.trans ?_) (one_Bs1 l hl a ha _ rfl hc w h1)
    unfold Lib.slowN
    repeat' split
    all_goals first | rfl | (exfalso; omega)
  | true =>
  have t1 := wi_true h1
  refine one_rune l a (vv ((l.getD a 0).toNat % 32) l a 1) 2 w (hd.trans ?_) (.inl (by decide)) (one_Br l hl a ha _ rfl hc w h1)
  unfold Lib.slowN
  repeat' split
  all_goals first | (exfalso; omega) | skip
  all_goals (refine Prod.ext ?_ rfl; simp only [vv, Nat.add_zero, show a + 1 + 1 = a + 2 from rfl, show a + 1 + 2 = a + 3 from rfl] <;> omega)
theorem one_is_C0 (l : List UInt8) (hl : l.length ≤ 2305843009213693952) (a : Nat) (ha : a < l.length) (hc : ((l.getD a 0).toNat = 224)) (w : World) : OneIs l a w := by
  have k1 := (l.getD (a + 1) 0).toNat_lt
  have k2 := (l.getD (a + 2) 0).toNat_lt
  have k3 := (l.getD (a + 3) 0).toNat_lt
  have hd := dec_at l a
  rw [← Lib.slow_E0 _ _ _ _ _ (by omega) k1 k2 k3 (by omega)] at hd
  cases h1 : wi l (a + 1) 160 191 with
  | false =>
    have f1 := wi_false h1
    refine one_stray l a _ rfl w (hd.trans ?_) (one_C0s1 l hl a ha _ rfl hc w h1)
    unfold Lib.slowN
    repeat' split
    all_goals first | rfl | (exfalso; omega)
  | true =>
  have t1 := wi_true h1
  cases h2 : wi l (a + 2) 128 191 with
  | false =>
    have f2 := wi_false h2
    refine one_stray l a _ rfl w (hd.trans ?_) (one_C0s2 l hl a ha _ rfl hc w h1 h2)
    unfold Lib.slowN
    repeat' split
    all_goals first | rfl | (exfalso; omega)
  | true =>
  have t2 := wi_true h2
  refine one_rune l a (vv ((l.getD a 0).toNat % 16) l a 2) 3 w (hd.trans ?_) (.inl (by decide)) (one_C0r l hl a ha _ rfl hc w h1 h2)
  unfold Lib.slowN
  repeat' split
  all_goals first | (exfalso; omega) | skip
  all_goals (refine Prod.ext ?_ rfl; simp only [vv, Nat.add_zero, show a + 1 + 1 = a + 2 from rfl, show a + 1 + 2 = a + 3 from rfl] <;> omega)
theorem one_is_C1 (l : List UInt8) (hl : l.length ≤ 2305843009213693952) (a : Nat) (ha : a < l.length) (hc : ((l.getD a 0).toNat = 237)) (w : World) : OneIs l a w := by
  have k1 := (l.getD (a + 1) 0).toNat_lt
  have k2 := (l.getD (a + 2) 0).toNat_lt
  have k3 := (l.getD (a + 3) 0).toNat_lt
  have hd := dec_at l a
  rw [← Lib.slow_ED _ _ _ _ _ (by omega) k1 k2 k3 (by omega)] at hd
  cases h1 : wi l (a + 1) 128 159 with
  | false =>
    have f1 := wi_false h1
    refine one_stray l a _ rfl w (hd.trans ?_) (one_C1s1 l hl a ha _ rfl hc w h1)
    unfold Lib.slowN
    repeat' split
    all_goals first | rfl | (exfalso; omega)
  | true =>
  have t1 := wi_true h1
  cases h2 : wi l (a + 2) 128 191 with
  | false =>
    have f2 := wi_false h2
    refine one_stray l a _ rfl w (hd.trans ?_) (one_C1s2 l hl a ha _ rfl hc w h1 h2)
    unfold Lib.slowN
    repeat' split
    all_goals first | rfl | (exfalso; omega)
  | true =>
  have t2 := wi_true h2
  refine one_rune l a (vv ((l.getD a 0).toNat % 16) l a 2) 3 w (hd.trans ?_) (.inl (by decide)) (one_C1r l hl a ha _ rfl hc w h1 h2)
  unfold Lib.slowN
  repeat' split
  all_goals first | (exfalso; omega) | skip
  all_goals (refine Prod.ext ?_ rfl; simp only [vv, Nat.add_zero, show a + 1 + 1 = a + 2 from rfl, show a + 1 + 2 = a + 3 from rfl] <;> omega)
theorem one_is_C2 (l : List UInt8) (hl : l.length ≤ 2305843009213693952) (a : Nat) (ha : a < l.length) (hc : ((225 ≤ (l.getD a 0).toNat ∧ (l.getD a 0).toNat ≤ 236) ∨ (238 ≤ (l.getD a 0).toNat ∧ (l.getD a 0).toNat ≤ 239))) (w : World) : OneIs l a w := by
  have k1 := (l.getD (a + 1) 0).toNat_lt
  have k2 := (l.getD (a + 2) 0).toNat_lt
  have k3 := (l.getD (a + 3) 0).toNat_lt
  have hd := dec_at l a
  rw [← Lib.slow_E1 _ _ _ _ _ (by omega) k1 k2 k3 (by omega)] at hd
  cases h1 : wi l (a + 1) 128 191 with
  | false =>
    have f1 := wi_false h1
    refine one_stray l a _ rfl w (hd.trans ?_) (one_C2s1 l hl a ha _ rfl hc w h1)
    unfold Lib.slowN
    repeat' split
    all_goals first | rfl | (exfalso; omega)
  | true =>
  have t1 := wi_true h1
  cases h2 : wi l (a + 2) 128 191 with
  | false =>
    have f2 := wi_false h2
    refine one_stray l a _ rfl w (hd.trans ?_) (one_C2s2 l hl a ha _ rfl hc w h1 h2)
    unfold Lib.slowN
    repeat' split
    all_goals first | rfl | (exfalso; omega)
  | true =>
  have t2 := wi_true h2
  refine one_rune l a (vv ((l.getD a 0).toNat % 16) l a 2) 3 w (hd.trans ?_) (.inl (by decide)) (one_C2r l hl a ha _ rfl hc w h1 h2)
  unfold Lib.slowN
  repeat' split
  all_goals first | (exfalso; omega) | skip
  all_goals (refine Prod.ext ?_ rfl; simp only [vv, Nat.add_zero, show a + 1 + 1 = a + 2 from rfl, show a + 1 + 2 = a + 3 from rfl] <;> omega)
theorem one_is_D0 (l : List UInt8) (hl : l.length ≤ 2305843009213693952) (a : Nat) (ha : a < l.length) (hc : ((l.getD a 0).toNat = 240)) (w : World) : OneIs l a w := by
  have k1 := (l.getD (a + 1) 0).toNat_lt
  have k2 := (l.getD (a + 2) 0).toNat_lt
  have k3 := (l.getD (a + 3) 0).toNat_lt
  have hd := dec_at l a
  rw [← Lib.slow_F0 _ _ _ _ _ (by omega) k1 k2 k3 (by omega)] at hd
  cases h1 : wi l (a + 1) 144 191 with
  | false =>
    have f1 := wi_false h1
    refine one_stray l a _ rfl w (hd.trans ?_) (one_D0s1 l hl a ha _ rfl hc w h1)
    unfold Lib.slowN
    repeat' split
    all_goals first | rfl | (exfalso; omega)
  | true =>
  have t1 := wi_true h1
  cases h2 : wi l (a + 2) 128 191 with
  | false =>
    have f2 := wi_false h2
    refine one_stray l a _ rfl w (hd.trans ?_) (one_D0s2 l hl a ha _ rfl hc w h1 h2)
    unfold Lib.slowN
    repeat' split
    all_goals first | rfl | (exfalso; omega)
  | true =>
  have t2 := wi_true h2
  cases h3 : wi l (a + 3) 128 191 with
  | false =>
    have f3 := wi_false h3
    refine one_stray l a _ rfl w (hd.trans ?_) (one_D0s3 l hl a ha _ rfl hc w h1 h2 h3)
    unfold Lib.slowN
    repeat' split
    all_goals first | rfl | (exfalso; omega)
  | true =>
  have t3 := wi_true h3
  refine one_rune l a (vv ((l.getD a 0).toNat % 8) l a 3) 4 w (hd.trans ?_) (.inl (by decide)) (one_D0r l hl a ha _ rfl hc w h1 h2 h3)
  unfold Lib.slowN
  repeat' split
  all_goals first | (exfalso; omega) | skip
  all_goals (refine Prod.ext ?_ rfl; simp only [vv, Nat.add_zero, show a + 1 + 1 = a + 2 from rfl, show a + 1 + 2 = a + 3 from rfl] <;> omega)
theorem one_is_D1 (l : List UInt8) (hl : l.length ≤ 2305843009213693952) (a : Nat) (ha : a < l.length) (hc : ((l.getD a 0).toNat = 244)) (w : World) : OneIs l a w := by
  have k1 := (l.getD (a + 1) 0).toNat_lt
  have k2 := (l.getD (a + 2) 0).toNat_lt
  have k3 := (l.getD (a + 3) 0).toNat_lt
  have hd := dec_at l a
  rw [← Lib.slow_F4 _ _ _ _ _ (by omega) k1 k2 k3 (by omega)] at hd
  cases h1 : wi l (a + 1) 128 143 with
  | false =>
    have f1 := wi_false h1
    refine one_stray l a _ rfl w (hd.trans ?_) (one_D1s1 l hl a ha _ rfl hc w h1)
    unfold Lib.slowN
    repeat' split
    all_goals first | rfl | (exfalso; omega)
  | true =>
  have t1 := wi_true h1
  cases h2 : wi l (a + 2) 128 191 with
  | false =>
    have f2 := wi_false h2
    refine one_stray l a _ rfl w (hd.trans ?_) (one_D1s2 l hl a ha _ rfl hc w h1 h2)
    unfold Lib.slowN
    repeat' split
    all_goals first | rfl | (exfalso; omega)
  | true =>
  have t2 := wi_true h2
  cases h3 : wi l (a + 3) 128 191 with
  | false =>
    have f3 := wi_false h3
    refine one_stray l a _ rfl w (hd.trans ?_) (one_D1s3 l hl a ha _ rfl hc w h1 h2 h3)
    unfold Lib.slowN
    repeat' split
    all_goals first | rfl | (exfalso; omega)
  | true =>
  have t3 := wi_true h3
  refine one_rune l a (vv ((l.getD a 0).toNat % 8) l a 3) 4 w (hd.trans ?_) (.inl (by decide)) (one_D1r l hl a ha _ rfl hc w h1 h2 h3)
  unfold Lib.slowN
  repeat' split
  all_goals first | (exfalso; omega) | skip
  all_goals (refine Prod.ext ?_ rfl; simp only [vv, Nat.add_zero, show a + 1 + 1 = a + 2 from rfl, show a + 1 + 2 = a + 3 from rfl] <;> omega)
theorem one_is_D2 (l : List UInt8) (hl : l.length ≤ 2305843009213693952) (a : Nat) (ha : a < l.length) (hc : (241 ≤ (l.getD a 0).toNat ∧ (l.getD a 0).toNat ≤ 243)) (w : World) : OneIs l a w := by
  have k1 := (l.getD (a + 1) 0).toNat_lt
  have k2 := (l.getD (a + 2) 0).toNat_lt
  have k3 := (l.getD (a + 3) 0).toNat_lt
  have hd := dec_at l a
  rw [← Lib.slow_F1 _ _ _ _ _ (by omega) k1 k2 k3 (by omega)] at hd
  cases h1 : wi l (a + 1) 128 191 with
  | false =>
    have f1 := wi_false h1
    refine one_stray l a _ rfl w (hd.trans ?_) (one_D2s1 l hl a ha _ rfl hc w h1)
    unfold Lib.slowN
    repeat' split
    all_goals first | rfl | (exfalso; omega)
  | true =>
  have t1 := wi_true h1
  cases h2 : wi l (a + 2) 128 191 with
  | false =>
    have f2 := wi_false h2
    refine one_stray l a _ rfl w (hd.trans ?_) (one_D2s2 l hl a ha _ rfl hc w h1 h2)
    unfold Lib.slowN
    repeat' split
    all_goals first | rfl | (exfalso; omega)
  | true =>
  have t2 := wi_true h2
  cases h3 : wi l (a + 3) 128 191 with
  | false =>
    have f3 := wi_false h3
    refine one_stray l a _ rfl w (hd.trans ?_) (one_D2s3 l hl a ha _ rfl hc w h1 h2 h3)
    unfold Lib.slowN
    repeat' split
    all_goals first | rfl | (exfalso; omega)
  | true =>
  have t3 := wi_true h3
  refine one_rune l a (vv ((l.getD a 0).toNat % 8) l a 3) 4 w (hd.trans ?_) (.inl (by decide)) (one_D2r l hl a ha _ rfl hc w h1 h2 h3)
  unfold Lib.slowN
  repeat' split
  all_goals first | (exfalso; omega) | skip
  all_goals (refine Prod.ext ?_ rfl; simp only [vv, Nat.add_zero, show a + 1 + 1 = a + 2 from rfl, show a + 1 + 2 = a + 3 from rfl] <;> omega)
theorem one_calls (l : List UInt8) (hl : l.length ≤ 2305843009213693952) (a : Nat) (ha : a < l.length) (w : World) : OneIs l a w := by
  have hb := (l.getD a 0).toNat_lt
  by_cases hA : (l.getD a 0).toNat < 128
  · exact one_rune l a _ 1 w ((dec_at l a).trans (Lib.decodeN_ascii _ _ _ _ _ hA)) (.inr (by omega)) (one_A l hl a ha _ rfl hA w)
  · by_cases hE : (l.getD a 0).toNat ≤ 193
    · exact one_stray l a _ rfl w ((dec_at l a).trans (Lib.bad_eq _ _ _ _ _ hb (by unfold Lib.firstT; rw [if_neg (by omega), if_pos (by omega)]))) (one_E1 l hl a ha _ rfl ⟨by omega, hE⟩ w)
    · by_cases hE2 : 245 ≤ (l.getD a 0).toNat
      · exact one_stray l a _ rfl w ((dec_at l a).trans (Lib.bad_eq _ _ _ _ _ hb (by unfold Lib.firstT; rw [if_neg (by omega), if_neg (by omega), if_neg (by omega), if_neg (by omega), if_neg (by omega), if_neg (by omega), if_neg (by omega), if_neg (by omega), if_neg (by omega), if_neg (by omega)]))) (one_E2 l hl a ha _ rfl hE2 w)
      · by_cases hB : (l.getD a 0).toNat ≤ 223
        · exact one_is_B l hl a ha ⟨by omega, hB⟩ w
        · by_cases hC0 : (l.getD a 0).toNat = 224
          · exact one_is_C0 l hl a ha hC0 w
          · by_cases hC1 : (l.getD a 0).toNat = 237
            · exact one_is_C1 l hl a ha hC1 w
            · by_cases hC2 : (l.getD a 0).toNat ≤ 239
              · exact one_is_C2 l hl a ha (by omega) w
              · by_cases hD0 : (l.getD a 0).toNat = 240
                · exact one_is_D0 l hl a ha hD0 w
                · by_cases hD1 : (l.getD a 0).toNat = 244
                  · exact one_is_D1 l hl a ha hD1 w
                  · exact one_is_D2 l hl a ha ⟨by omega, by omega⟩ w
end Go.Proofs.YtefdlpddhkocbaaDoor

namespace Go.Proofs.YtefdlpddhkocbaaDoor
open Go.RowKit
set_option linter.unusedSimpArgs false
set_option linter.unusedVariables false

def nums (l : List UInt8) : List Nat := (tk l).map tokNum
def ic (xs : List Nat) : List Value := xs.map fun n : Nat => Value.int .i64 (n : Int)
theorem ic_length (xs : List Nat) : (ic xs).length = xs.length := by simp [ic]
theorem ic_snoc (xs : List Nat) (n : Nat) : ic (xs ++ [n]) = ic xs ++ [.int .i64 (n : Int)] := by simp [ic]
/-- A list of numbers in memory. -/
def NumsAt (w : World) (v : Value) (xs : List Nat) : Prop :=
  ∃ p cap, v = .slice p xs.length cap ∧ (xs ≠ [] → ∃ g, p = some ⟨g, 0, none⟩ ∧ g < w.heap.size ∧ ∀ j, j < xs.length → w.cell? ⟨g, j, none⟩ = some (.int .i64 ((xs.getD j 0 : Nat) : Int)))
theorem intInfo : ∃ i, Tryd.prog.info? 3 = some i ∧ i.zero = some (.int .i64 0) ∧ i.size = 1 ∧ i.bytes = 8 := by
  have e : (Tryd.prog.info? 3).map (fun i => (i.zero, i.size, i.bytes)) = some (some (.int .i64 0), 1, 8) := by kernel_rfl
  cases hq : Tryd.prog.info? 3 with
  | none => rw [hq] at e; cases e
  | some i =>
    rw [hq] at e
    simp only [Option.map_some, Option.some.injEq, Prod.mk.injEq] at e
    exact ⟨i, rfl, e.1, e.2.1, e.2.2⟩
/-- A slice of numbers that the call owns. -/
structure NBuf (w0 : World) (v : Value) (xs : List Nat) (w : World) : Prop where
  own : w.ownsRow w0.heap.size 3 1 v xs.length (ic xs)
  below : Below w0.heap.size w0 w
theorem NBuf.numsAt {w0 w : World} {v : Value} {xs : List Nat} (h : NBuf w0 v xs w) : NumsAt w v xs := by
  have h0 := h.own
  obtain ⟨h1, h2⟩ := h0
  rcases h2 with ⟨rfl, h3⟩ | ⟨g, cap, cur, rfl, hB, hg, hc, hm, hs, ht⟩
  · refine ⟨none, 0, by rw [h3], fun hx => absurd (List.eq_nil_of_length_eq_zero h3) hx⟩
  · refine ⟨some ⟨g, 0, none⟩, cap, rfl, fun _ => ⟨g, rfl, (Array.getElem?_eq_some_iff.1 hg).1, fun j hj => ?_⟩⟩
    have := h.own.cells (g := g) rfl j (.int .i64 ((xs.getD j 0 : Nat) : Int)) (by simp [ic, hj])
    rw [show (⟨g, 0, none⟩ : Addr).add j = ⟨g, j, none⟩ by unfold Addr.add; split <;> simp_all] at this
    exact this
theorem wpList_append_n {ops : Array Oper} {rest : List Oper} {o : Oper} {a : Act} {Q : Exit → Act → World → Prop} (hgd : o.guard = none) (s x : Operand)
    (ho : o.op = .call { callee := .builtin .append, args := #[s, x], argTypes := #[65, 65] })
    (w0 : World) (xs : List Nat) (v : Value) (hs : a.eval s = v) (wr : World) (n : Nat) (hb : NBuf w0 v xs wr)
    (hx : a.eval x = .slice (some ⟨wr.heap.size, 0, none⟩) 1 1) (hlen : xs.length + 1 ≤ 1099511627776)
    (h : ∀ v' w', NBuf w0 v' (xs ++ [n]) w' → wpList Tryd.prog ops Q rest (a.put o.dst v') w') : wpList Tryd.prog ops Q (o :: rest) a (wr.alloc (.cells #[.int .i64 (n : Int)] 3)) := by
  obtain ⟨i, hi, hz, h1, h2⟩ := intInfo
  have hzr := hb.below.size
  refine wpList_append_own _ hgd s x 65 ho w0.heap.size 3 i (.int .i64 0) 1 8 Tryd.underlying65 hi hz h1 h2 rfl (by decide) v xs.length (ic xs) hs (hb.own.alloc _) ⟨wr.heap.size, 0, none⟩ 1 1 [.int .i64 (n : Int)] hx rfl ?_ ?_ (by unfold maxLen; omega) (by omega) (by rw [World.size_alloc]; omega) ?_
  · intro j u hj
    have hj0 : j = 0 := by
      have := (List.getElem?_eq_some_iff.1 hj).1; simp at this; omega
    subst hj0
    simp at hj
    subst hj
    rw [show (⟨wr.heap.size, 0, none⟩ : Addr).add 0 = ⟨wr.heap.size, 0, none⟩ by rfl]
    exact (cell_of_row _ _ _ _ _ _ (al1 wr (.cells #[.int .i64 (n : Int)] 3)))
  · intro u hu; simp at hu; subst hu; rfl
  · intro v' w' hown hg _
    refine h v' w' ⟨?_, ?_⟩
    · rw [List.length_append, ic_snoc]; exact hown
    · have hbA := hb.below.alloc hzr (.cells #[.int .i64 (n : Int)] 3)
      refine hbA.trans ⟨hg.os, hg.tape, hg.output, hg.size, fun k hk => hg.block k (by rw [World.size_alloc]; omega) ?_⟩
      intro hc
      have := (hb.own.lt k hc.symm).1
      omega
end Go.Proofs.YtefdlpddhkocbaaDoor

namespace Go.Proofs.YtefdlpddhkocbaaDoor
open Go.RowKit
set_option linter.unusedSimpArgs false
set_option linter.unusedVariables false

set_option maxHeartbeats 1000000 in
theorem numbers_calls (l : List UInt8) (hl : l.length ≤ 1000000000) (w : World) :
    Calls Tryd.prog 35 #[.string (str l)] w fun e w' => ∃ v, e = .returned v ∧ NumsAt w' v (nums l) ∧ Below w.heap.size w w' := by
  have hone := fun a ha w => one_calls l (by omega) a ha w
  have Hone := hide hone
  have hsz : (str l).size = l.length := str_size l
  clear hone
  go_enter Tryd.func35, Tryd.ntmps35
  go_wp2
  go_loopw [3, 4] (fun v i wr => ∃ (pos : Nat) (dn : List Tok), pos ≤ l.length ∧ i = .int .i64 (pos : Int) ∧ Hid (tk l = dn ++ tk (l.drop pos)) ∧ dn.length ≤ pos ∧ NBuf w v (dn.map tokNum) wr) (fun _ i _ => l.length - (intOf i).toNat)
  case atStart => exact ⟨0, [], by omega, rfl, by show tk l = _; simp, by simp, ⟨World.ownsRow_nil _ _ _ _, Below.refl _ _⟩⟩
  case round =>
    obtain ⟨pos, dn, hp, rfl, hT, hdn, hB⟩ := hrel
    by_cases hlt : pos < l.length
    · have hd : decide (pos < l.length) = true := by simpa using hlt
      have hne : l.drop pos ≠ [] := by simp; omega
      have hT2 : tk l = (dn ++ [headTok (l.drop pos)]) ++ tk (l.drop (pos + (Lib.decodeL (l.drop pos)).2)) := by
        rw [unhide hT, tk_cons _ hne, List.drop_drop]; simp
      have hw1 := Lib.decodeL_width (l.drop pos)
      have hw2 := Lib.decodeL_le (l.drop pos) hne
      rw [List.length_drop] at hw2
      have hO := unhide Hone pos hlt
      unfold OneIs at hO
      have hmap : (dn ++ [headTok (l.drop pos)]).map tokNum = dn.map tokNum ++ [tokNum (headTok (l.drop pos))] := by simp
      generalize hwd : (Lib.decodeL (l.drop pos)).2 = wd at *
      generalize hht : headTok (l.drop pos) = ht at *
      generalize tokNum ht = N at *
      have HO := hide hO
      have HT2 := hide hT2
      have Hmap := hide hmap
      clear hO hT2 hmap hwd hht hT hne
      go_wp2_with fail
      refine (unhide HO _).mono ?_
      rintro e w' ⟨rfl, rfl⟩
      go_wp2_with (at_builtin; refine wpList_append_n rfl (.tmp 17) (.tmp 19) rfl w (dn.map tokNum) _ rfl w' N hB rfl (by rw [List.length_map]; omega) ?_; intro v2 w2 hB2)
      go_roundw
      case rel => exact ⟨pos + wd, dn ++ [ht], by omega, by go_num, HT2, by simp; omega, by rw [unhide Hmap]; exact hB2⟩
      case measure => simp [intOf]; omega
    · have hd : decide (pos < l.length) = false := by simpa using hlt
      have hT' := unhide hT
      rw [List.drop_of_length_le (by omega), tk_nil, List.append_nil] at hT'
      have hN : nums l = dn.map tokNum := by rw [nums, hT']
      have HN := hide hN
      clear hT hT' hN
      go_wp2
      go_ret
      exact ⟨_, rfl, by rw [unhide HN]; exact hB.numsAt, hB.below⟩
theorem nums_len (l : List UInt8) : (nums l).length = (tk l).length := by simp [nums]
theorem nums_le (l : List UInt8) : (nums l).length ≤ l.length := by
  have h := good_len _ (good_of_tk l)
  rw [flat_of_tk] at h
  rw [nums_len]; exact h
theorem NumsAt.below {w w' : World} {v : Value} {xs : List Nat} (h : NumsAt w v xs) (hb : Below w.heap.size w w') : NumsAt w' v xs := by
  obtain ⟨p, cap, rfl, hp⟩ := h
  refine ⟨p, cap, rfl, fun hx => ?_⟩
  obtain ⟨g, rfl, hg, hc⟩ := hp hx
  exact ⟨g, rfl, Nat.lt_of_lt_of_le hg hb.size, fun j hj => by rw [hb.cell (p := ⟨g, j, none⟩) hg]; exact hc j hj⟩
end Go.Proofs.YtefdlpddhkocbaaDoor

namespace Go.Proofs.YtefdlpddhkocbaaDoor
open Go.RowKit
set_option linter.unusedSimpArgs false
set_option linter.unusedVariables false

theorem good_mem : ∀ ts : List Tok, Good ts → ∀ t ∈ ts, (∃ r, t.1 = some r ∧ validRune r) ∨ ∃ b, t = (none, [b])
  | [], _, t, h => by cases h
  | t :: ts, ⟨h1, h2, h3⟩, x, hx => by
    rcases List.mem_cons.1 hx with rfl | hx
    · by_cases hs : x.1 = none
      · exact .inr (tok_none x _ h1 h2 hs)
      · left
        have hne : x.2 ++ flat ts ≠ [] := by simp [h1]
        have hnv : ¬ ((Lib.decodeL (x.2 ++ flat ts)).1 = 65533 ∧ (Lib.decodeL (x.2 ++ flat ts)).2 = 1) := by
          intro hc
          apply hs
          have := congrArg (·.1) h2
          simp only [headTok, if_pos hc] at this
          exact this.symm
        refine ⟨(Lib.decodeL (x.2 ++ flat ts)).1, ?_, dec_valid _ hne hnv⟩
        have := congrArg (·.1) h2
        simp only [headTok, if_neg hnv] at this
        exact this.symm
    · exact good_mem ts h3 x hx
theorem tk_mem (l : List UInt8) (t : Tok) (h : t ∈ tk l) : (∃ r, t.1 = some r ∧ r ≤ 1114111) ∨ ∃ b, t = (none, [b]) := by
  rcases good_mem _ (good_of_tk l) t h with ⟨r, h1, h2⟩ | h
  · exact .inl ⟨r, h1, by unfold validRune at h2; omega⟩
  · exact .inr h
theorem tokNum_some (t : Tok) (r : Nat) (h : t.1 = some r) : tokNum t = r := by unfold tokNum; rw [h]
theorem tokNum_none (b : UInt8) : tokNum (none, [b]) = 2000000 + b.toNat := rfl
theorem tokNum_lt (l : List UInt8) (t : Tok) (h : t ∈ tk l) : decide (tokNum t < 2000000) = t.1.isSome ∧ tokNum t < 2000256 := by
  rcases tk_mem l t h with ⟨r, h1, h2⟩ | ⟨b, rfl⟩
  · rw [tokNum_some t r h1, h1]; simp; omega
  · rw [tokNum_none]; have := b.toNat_lt; simp; omega
theorem pRunes_nums (l : List UInt8) : pRunes l = ((nums l).filter fun n => decide (n < 2000000)).length := by
  rw [pRunes_tok, nums, List.filter_map, List.length_map]
  congr 1
  apply List.filter_congr
  intro t ht
  exact (tokNum_lt l t ht).1.symm
theorem pStrays_nums (l : List UInt8) : pStrays l = ((nums l).filter fun n => !decide (n < 2000000)).length := by
  rw [pStrays_tok, nums, List.filter_map, List.length_map]
  congr 1
  apply List.filter_congr
  intro t ht
  have := (tokNum_lt l t ht).1
  simp only [Function.comp_apply, this]
  cases t.1 <;> rfl
def nameNums : Nat → List Nat → Bool
  | _, [] => true
  | i, n :: ns => nameRune i n && nameNums (i + 1) ns
theorem nameToks_nums (l : List UInt8) : ∀ (ts : List Tok) (i : Nat), (∀ t ∈ ts, t ∈ tk l) → nameToks i ts = nameNums i (ts.map tokNum)
  | [], i, _ => rfl
  | t :: ts, i, h => by
    rw [List.map_cons]
    unfold nameToks nameNums
    rw [nameToks_nums l ts (i + 1) (fun x hx => h x (by simp [hx]))]
    congr 1
    rcases tk_mem l t (h t (by simp)) with ⟨r, h1, h2⟩ | ⟨b, rfl⟩
    · rw [tokNum_some t r h1]; unfold nameTok; rw [h1]
    · rw [tokNum_none]
      have := b.toNat_lt
      simp [nameTok, nameRune, pSmall, pDigit]
      omega
theorem pRight_nums (l : List UInt8) : pRight l = (nameNums 0 (nums l) && (decide (1 ≤ (nums l).length) && decide ((nums l).length ≤ 12))) := by
  rw [pRight_tok, nameToks_nums l _ 0 (fun _ h => h), nums_len]; rfl
def sayNum (n : Nat) : Bool := !decide (n < 32) && (!(n == 127) && decide (n < 2000000))
theorem pSays_nums (l : List UInt8) : pSays l = ((nums l).all sayNum && decide ((nums l).length ≤ 64)) := by
  rw [pSays_tok, nums_len]
  congr 1
  unfold nums
  rw [List.all_map]
  rw [Bool.eq_iff_iff, List.all_eq_true, List.all_eq_true]
  have key : ∀ t ∈ tk l, sayTok t = sayNum (tokNum t) := fun t ht => by
    rcases tk_mem l t ht with ⟨r, h1, h2⟩ | ⟨b, rfl⟩
    · rw [tokNum_some t r h1]; unfold sayTok sayNum; rw [h1]
      have : decide (r < 2000000) = true := by simp; omega
      simp [this]
    · rw [tokNum_none]
      have := b.toNat_lt
      simp [sayTok, sayNum]
  constructor
  · intro h t ht; show sayNum (tokNum t) = true; rw [← key t ht]; exact h t ht
  · intro h t ht; rw [key t ht]; exact h t ht
theorem nums_at (l : List UInt8) (j : Nat) (hj : j < (nums l).length) : (nums l).getD j 0 < 2000256 := by
  have : (nums l).getD j 0 ∈ nums l := by
    rw [List.getD_eq_getElem?_getD, List.getElem?_eq_getElem hj]; exact List.getElem_mem _
  unfold nums at this
  obtain ⟨t, ht, he⟩ := List.mem_map.1 this
  unfold nums
  rw [← he]; exact (tokNum_lt l t ht).2
end Go.Proofs.YtefdlpddhkocbaaDoor

namespace Go.Proofs.YtefdlpddhkocbaaDoor
open Go.RowKit
set_option linter.unusedSimpArgs false
set_option linter.unusedVariables false

theorem rsmall_calls (r : Nat) (w : World) :
    Calls Tryd.prog 36 #[.int .i64 (r : Int)] w fun e w' => e = .returned (.bool (pSmall r)) ∧ w' = w := by
  cases d1 : decide ((97 : Int) ≤ (r : Int)) <;> cases d2 : decide ((r : Int) ≤ 122) <;> cases d3 : decide ((945 : Int) ≤ (r : Int)) <;> cases d4 : decide ((r : Int) ≤ 969)
  all_goals
    generalize hp : pSmall r = p
    have Hp := hide hp
    clear hp
    go_enter Tryd.func36, Tryd.ntmps36
    go_wp2
    go_ret
    refine ⟨?_, rfl⟩
    rw [← unhide Hp]
    simp only [decide_eq_true_eq, decide_eq_false_iff_not] at d1 d2 d3 d4
    simp [pSmall]
    omega
theorem drop_consN (l : List Nat) (k : Nat) (h : k < l.length) : l.drop k = l.getD k 0 :: l.drop (k + 1) := by
  rw [List.drop_eq_getElem_cons h, List.getD_eq_getElem?_getD, List.getElem?_eq_getElem h]; rfl
theorem nameNums_drop (xs : List Nat) (i j : Nat) (h : j < xs.length) : nameNums i (xs.drop j) = (nameRune i (xs.getD j 0) && nameNums (i + 1) (xs.drop (j + 1))) := by
  rw [drop_consN xs j h]; rfl
set_option maxHeartbeats 2000000 in
theorem rright_calls (l : List UInt8) (hl : l.length ≤ 1000000000) (w : World) :
    Calls Tryd.prog 20 #[.string (str l)] w fun e w' => e = .returned (.bool (pRight l)) ∧ Below w.heap.size w w' := by
  have hnum := numbers_calls l hl
  have hlen := nums_le l
  have hat := nums_at l
  rw [pRight_nums]
  generalize nums l = xs at *
  generalize hR : (nameNums 0 xs && (decide (1 ≤ xs.length) && decide (xs.length ≤ 12))) = R
  have HR := hide hR
  have Hnum := hide hnum
  have Hat := hide hat
  clear hnum hat hR
  go_enter Tryd.func20, Tryd.ntmps20
  go_wp2_with fail
  refine (unhide Hnum _).mono ?_
  rintro e w1 ⟨v, rfl, hN, b1⟩
  obtain ⟨p, cap, rfl, hp⟩ := hN
  have Hp := hide hp
  clear hp Hnum
  go_wp2
  go_loopw [10] (fun i wr => ∃ j : Nat, j ≤ xs.length ∧ i = .int .i64 (j : Int) ∧ Hid (nameNums 0 xs = nameNums j (xs.drop j)) ∧ wr = w1) (fun i _ => xs.length - (intOf i).toNat)
  case atStart => exact ⟨0, by omega, rfl, rfl, rfl⟩
  case round =>
    obtain ⟨j, hj, rfl, hX, rfl⟩ := hrel
    by_cases hlt : j < xs.length
    · have hd : decide (j < xs.length) = true := by simpa using hlt
      have bk : (j : Int) < (xs.length : Int) := by omega
      obtain ⟨g, rfl, hg, hc⟩ := unhide Hp (by intro h0; rw [h0] at hlt; simp at hlt)
      have c := hc j hlt
      have hX2 := unhide hX
      rw [nameNums_drop xs j j hlt] at hX2
      generalize xs.getD j 0 = x at *
      have hsm := rsmall_calls x
      cases hn : nameRune j x with
      | true =>
        rw [hn, Bool.true_and] at hX2
        have HX2 := hide hX2
        by_cases hps : pSmall x = true
        · rw [hps] at hsm
          have Hsm := hide hsm
          clear hsm hX2 hc hn hX hps
          go_wp2_with fail
          refine (unhide Hsm _).mono ?_
          rintro e w' ⟨rfl, rfl⟩
          go_wp2
          go_roundw
          case rel => exact ⟨j + 1, by omega, by go_num, HX2, trivial⟩
          case measure => simp [intOf]; omega
        · have hps' : pSmall x = false := by simpa using hps
          rw [hps'] at hsm
          have hjx : j ≠ 0 ∧ 48 ≤ x ∧ x ≤ 57 := by
            simp [nameRune, hps', pDigit] at hn; omega
          have e1 : ((j : Int) == 0) = false := by simp; omega
          have e2 : decide ((x : Int) < 48) = false := by simp; omega
          have e3 : decide ((57 : Int) < (x : Int)) = false := by simp; omega
          have e4 : (j == 0) = false := by simp; omega
          have Hsm := hide hsm
          clear hsm hX2 hc hn hX hps
          go_wp2_with fail
          refine (unhide Hsm _).mono ?_
          rintro e w' ⟨rfl, rfl⟩
          go_wp2
          go_roundw
          case rel => exact ⟨j + 1, by omega, by go_num, HX2, trivial⟩
          case measure => simp [intOf]; omega
      | false =>
        rw [hn, Bool.false_and] at hX2
        have hRf : R = false := by rw [← unhide HR, hX2]; rfl
        subst hRf
        have hps : pSmall x = false := by
          cases hp : pSmall x with
          | false => rfl
          | true => simp [nameRune, hp] at hn
        rw [hps] at hsm
        have Hsm := hide hsm
        clear hsm hX2 hc hX HR
        by_cases hj0 : j = 0
        · have e1 : (j == 0) = true := by simpa using hj0
          have e1' : ((j : Int) == 0) = true := by simp; omega
          clear hn hps hj0
          go_wp2_with fail
          refine (unhide Hsm _).mono ?_
          rintro e w' ⟨rfl, rfl⟩
          go_wp2
          go_ret
          exact ⟨rfl, b1⟩
        · have e1 : (j == 0) = false := by simpa using hj0
          have e1' : ((j : Int) == 0) = false := by simp; omega
          have hdg : ¬ (48 ≤ x ∧ x ≤ 57) := by
            simp [nameRune, hps, pDigit, hj0] at hn; omega
          by_cases h48 : x < 48
          · have e2 : decide ((x : Int) < 48) = true := by simp; omega
            clear hn hps
            go_wp2_with fail
            refine (unhide Hsm _).mono ?_
            rintro e w' ⟨rfl, rfl⟩
            go_wp2
            go_ret
            exact ⟨rfl, b1⟩
          · have e2 : decide ((x : Int) < 48) = false := by simp; omega
            have e3 : decide ((57 : Int) < (x : Int)) = true := by simp; omega
            clear hn hps
            go_wp2_with fail
            refine (unhide Hsm _).mono ?_
            rintro e w' ⟨rfl, rfl⟩
            go_wp2
            go_ret
            exact ⟨rfl, b1⟩
    · have hd : decide (j < xs.length) = false := by simpa using hlt
      have hX2 := unhide hX
      rw [List.drop_of_length_le (by omega)] at hX2
      have hR2 := unhide HR
      rw [hX2] at hR2
      have hR3 : (decide (1 ≤ xs.length) && decide (xs.length ≤ 12)) = R := by simpa [nameNums] using hR2
      have HR3 := hide hR3
      clear hX hX2 hR2 hR3
      cases d1 : decide ((1 : Int) ≤ (xs.length : Int)) <;> cases d2 : decide ((xs.length : Int) ≤ 12)
      all_goals
        go_wp2
        go_ret
        refine ⟨?_, b1⟩
        rw [← unhide HR3]
        simp only [decide_eq_true_eq, decide_eq_false_iff_not] at d1 d2
        simp
        omega
end Go.Proofs.YtefdlpddhkocbaaDoor

namespace Go.Proofs.YtefdlpddhkocbaaDoor
open Go.RowKit
set_option linter.unusedSimpArgs false
set_option linter.unusedVariables false

set_option maxRecDepth 100000 in
theorem lrright_calls (x : Lt) (h1 : x.se.length ≤ 1000000000) (h2 : x.re.length ≤ 1000000000) (w : World) :
    Calls Tryd.prog 8 #[.agg x.cells] w fun e w' => e = .returned (.bool x.right) ∧ Below w.heap.size w w' := by
  obtain ⟨fr, no, tt, se, re, bo⟩ := x
  unfold Lt.right Lt.cells
  have k1 := hide fun W => rright_calls se h1 W
  have k2 := hide fun W => rright_calls re h2 W
  simp only
  generalize pRight se = a at *
  generalize pRight re = b at *
  have hsz := str_size bo
  have hle : decide ((bo.length : Int) ≤ 300) = decide (bo.length ≤ 300) := by congr 1; apply propext; omega
  generalize hR : (if a = true then (if b = true then decide (bo.length ≤ 300) else false) else false) = R
  have HR := hide hR
  have hb0 : Below w.heap.size w (w.alloc (.cells (⟨fr, no, tt, se, re, bo⟩ : Lt).cells 24)) := (Below.refl _ w).alloc (Nat.le_refl _) _
  clear h1 h2 hR
  go_enter Tryd.func8, Tryd.ntmps8
  go_wp2_with fail
  refine (unhide k1 _).mono ?_
  rintro e w1 ⟨rfl, b1⟩
  obtain ⟨c1, -, z1, -⟩ := alloc_kept b1
  have hb1 := hb0.trans (b1.mono (by simp [Lt.cells]))
  have d1 := c1 4
  have d2 := c1 5
  simp only [List.getElem?_toArray, List.getElem?_cons_succ, List.getElem?_cons_zero] at d1 d2
  clear c1 b1
  cases a with
  | false =>
    go_wp2_with fail
    go_ret
    exact ⟨by rw [← unhide HR]; rfl, hb1⟩
  | true =>
    go_wp2_with fail
    refine (unhide k2 _).mono ?_
    rintro e w2 ⟨rfl, b2⟩
    have d3 := ((bcell b2).1 w.heap.size 5 z1).trans d2
    have hb2 := hb1.trans (b2.mono (Nat.le_of_lt z1))
    cases b with
    | false =>
      go_wp2_with fail
      go_ret
      exact ⟨by rw [← unhide HR]; rfl, hb2⟩
    | true =>
      go_wp2_with fail
      go_ret
      exact ⟨by rw [← unhide HR]; simp, hb2⟩
/-- Read's memory: the result, the letter, the reader. -/
structure DSt (w : World) (N : Nat) (wi : World) (row : Array Value) (r : Rd) : Prop where
  below : Below N w wi
  res : wi.heap[N]? = some (.cells Lt.zero.cells 24 (0, 0))
  x : wi.heap[N + 1 + 1]? = some (.cells row 24 (0, 0))
  rd : DdAt wi (N + 1) r
theorem DSt.turn {w : World} {N : Nat} {wi w' : World} {row : Array Value} {r r' : Rd} (h : DSt w N wi row r) (R : DdAt w' (N + 1) r') (T : Turned (N + 1) wi w') : DSt w N w' row r' :=
  ⟨T.under h.below (by omega), T.row (by omega) h.res, T.row (by omega) h.x, R⟩
theorem DSt.set {w : World} {N : Nat} {wi : World} {row row' : Array Value} {r : Rd} (h : DSt w N wi row r) (j : Nat) (v : Value) (e : row.setIfInBounds j v = row') : DSt w N (wi.setCell ⟨N + 1 + 1, j, none⟩ v) row' r := by
  refine ⟨h.below.setCell (p := ⟨N + 1 + 1, j, none⟩) (by show N ≤ N + 1 + 1; omega) _, ?_, ?_, h.rd.other (by omega) _⟩
  · rw [heap_setCell_other _ _ _ _ (by show N ≠ N + 1 + 1; omega)]; exact h.res
  · rw [← e]; exact heap_setCell_same _ _ _ _ _ _ h.x
theorem DSt.cell {w : World} {N : Nat} {wi : World} {row : Array Value} {r : Rd} (h : DSt w N wi row r) (j : Nat) : wi.cell? ⟨N + 1 + 1, j, none⟩ = row[j]? := by rw [cell_of_row _ _ _ _ _ _ h.x]
theorem DSt.frozen {w : World} {N : Nat} {wi : World} {row : Array Value} {r : Rd} (h : DSt w N wi row r) (j : Nat) : wi.frozen? ⟨N + 1 + 1, j, none⟩ = false := frozen_of_row _ _ _ _ _ h.x

set_option maxHeartbeats 2000000 in
set_option maxRecDepth 100000 in
theorem lrread_calls (l : List UInt8) (hl : l.length ≤ 1000000000) (w : World) :
    Calls Tryd.prog 11 #[.string (str l)] w fun e w' => e = .returned (.tuple #[.agg (pLRead l).1.cells, .int .i64 (pLRead l).2]) ∧ Below w.heap.size w w' := by
  obtain ⟨r0, h0⟩ : ∃ r, (⟨l, 0⟩ : Rd) = r := ⟨_, rfl⟩
  have hl1 : r0.rest.length ≤ 1000000000 := by rw [← h0]; exact hl
  have hl0 : r0.rest.length ≤ 4611686018427387904 := by omega
  have m1 := r0.l1_rest
  have m2 := r0.l2_rest
  have m3 := r0.l3_rest
  have m4 := r0.l4_rest
  have m5 := r0.l5_rest
  have s4 := r0.l4_len
  have s5 := r0.l5_len
  have k1 := hide fun W (h : DdAt W (w.heap.size + 1) r0) => dnumber_calls _ 4 (by decide) r0 hl0 W h
  have k2 := hide fun W (h : DdAt W (w.heap.size + 1) r0.l1.2) => dnumber_calls _ 4 (by decide) r0.l1.2 (by omega) W h
  have k3 := hide fun W (h : DdAt W (w.heap.size + 1) r0.l2.2) => dnumber_calls _ 4 (by decide) r0.l2.2 (by omega) W h
  have k4 := hide fun W (h : DdAt W (w.heap.size + 1) r0.l3.2) => dtext_calls _ r0.l3.2 (by omega) 48 (by decide) W h
  have k5 := hide fun W (h : DdAt W (w.heap.size + 1) r0.l4.2) => dtext_calls _ r0.l4.2 (by omega) 48 (by decide) W h
  have k6 := hide fun W (h : DdAt W (w.heap.size + 1) r0.l5.2) => dtext_calls _ r0.l5.2 (by omega) 300 (by decide) W h
  have k7 := hide fun W (h : DdAt W (w.heap.size + 1) r0.l6.2) => dend_calls _ r0.l6.2 W h
  have k8 := hide fun W => lrright_calls r0.letter (by show r0.l4.1.length ≤ _; omega) (by show r0.l5.1.length ≤ _; omega) W
  have e2 : r0.l1.2.num 4 = r0.l2 := rfl
  have e3 : r0.l2.2.num 4 = r0.l3 := rfl
  have e4 : r0.l3.2.text 48 = r0.l4 := rfl
  have e5 : r0.l4.2.text 48 = r0.l5 := rfl
  have e6 : r0.l5.2.text 300 = r0.l6 := rfl
  have e1 : r0.num 4 = r0.l1 := rfl
  rw [show ((4 : Nat) : Int) = 4 from rfl] at k1 k2 k3
  rw [show ((48 : Nat) : Int) = 48 from rfl] at k4 k5
  rw [show ((300 : Nat) : Int) = 300 from rfl] at k6
  rw [e1] at k1
  rw [e2] at k2
  rw [e3] at k3
  rw [e4] at k4
  rw [e5] at k5
  rw [e6] at k6
  unfold pLRead
  rw [h0]
  have g1 : r0.l1.1 < 4294967296 := Rd.num_lt _ 4
  have g2 : r0.l2.1 < 4294967296 := Rd.num_lt _ 4
  have g3 : r0.l3.1 < 4294967296 := Rd.num_lt _ 4
  have hlt : r0.letter = ⟨r0.l1.1, r0.l2.1, r0.l3.1, r0.l4.1, r0.l5.1, r0.l6.1⟩ := rfl
  have hz : Lt.zero.cells.all (·.oneCell') = true := let_one _
  have hiz := let_info Lt.zero
  have hil := let_info r0.letter
  have hol := let_one r0.letter
  have hsl : r0.letter.cells.size = Lt.zero.cells.size := rfl
  obtain ⟨R, hR⟩ : ∃ R, r0.letter.right = R := ⟨_, rfl⟩
  rw [hR] at k8 ⊢
  have hcl : Hid (#[.int .u32 (r0.l1.1 : Int), .int .u32 (r0.l2.1 : Int), .int .u32 (r0.l3.1 : Int), .string (str r0.l4.1), .string (str r0.l5.1), .string (str r0.l6.1)] = r0.letter.cells) := rfl
  generalize r0.letter = X at *
  generalize r0.l1 = x1 at *
  generalize r0.l2 = x2 at *
  generalize r0.l3 = x3 at *
  generalize r0.l4 = x4 at *
  generalize r0.l5 = x5 at *
  generalize r0.l6 = x6 at *
  obtain ⟨a1, r1⟩ := x1
  obtain ⟨a2, r2⟩ := x2
  obtain ⟨a3, r3⟩ := x3
  obtain ⟨a4, r4⟩ := x4
  obtain ⟨a5, r5⟩ := x5
  obtain ⟨a6, r6⟩ := x6
  simp only at *
  generalize r6.end' = E at *
  clear m1 m2 m3 m4 m5 s4 s5 e1 e2 e3 e4 e5 e6 hlt hR hl0 hl1 hl
  have L0 : DSt w w.heap.size (((w.alloc (.cells Lt.zero.cells 24)).alloc (.cells (⟨l, 0⟩ : Rd).cells 54)).alloc (.cells Lt.zero.cells 24)) Lt.zero.cells r0 :=
    ⟨bel3 w _ _ _, (al3 w _ _ _).1, (al3 w _ _ _).2.2, by rw [← h0]; exact (al3 w _ _ _).2.1⟩
  obtain ⟨A, hA⟩ : ∃ A, (if E ≠ 0 then (Lt.zero, E) else if R = true then (X, 0) else (Lt.zero, 4)) = A := ⟨_, rfl⟩
  rw [hA]
  have HA := hide hA
  clear hA
  have HL0 := hide L0
  clear L0 h0
  go_enter Tryd.func11, Tryd.ntmps11
  have L0 := unhide HL0
  clear HL0
  go_wp2_with fail
  refine (unhide k1 _ L0.rd).mono ?_
  rintro e w1 ⟨rfl, R, T⟩
  have M := L0.turn R T
  have f := M.frozen 0
  have c : w1.cell? ⟨w.heap.size + 1 + 1, 0, none⟩ = some (.int .u32 0) := M.cell 0
  have L1 := M.set (row' := #[.int .u32 (a1 : Int), .int .u32 0, .int .u32 0, .string (str []), .string (str []), .string (str [])]) 0 (.int .u32 (a1 : Int)) rfl
  clear L0 R T M k1
  go_wp2_with fail
  refine (unhide k2 _ L1.rd).mono ?_
  rintro e w2 ⟨rfl, R, T⟩
  have M := L1.turn R T
  have f := M.frozen 1
  have c : w2.cell? ⟨w.heap.size + 1 + 1, 1, none⟩ = some (.int .u32 0) := M.cell 1
  have L2 := M.set (row' := #[.int .u32 (a1 : Int), .int .u32 (a2 : Int), .int .u32 0, .string (str []), .string (str []), .string (str [])]) 1 (.int .u32 (a2 : Int)) rfl
  clear L1 R T M k2
  go_wp2_with fail
  refine (unhide k3 _ L2.rd).mono ?_
  rintro e w3 ⟨rfl, R, T⟩
  have M := L2.turn R T
  have f := M.frozen 2
  have c : w3.cell? ⟨w.heap.size + 1 + 1, 2, none⟩ = some (.int .u32 0) := M.cell 2
  have L3 := M.set (row' := #[.int .u32 (a1 : Int), .int .u32 (a2 : Int), .int .u32 (a3 : Int), .string (str []), .string (str []), .string (str [])]) 2 (.int .u32 (a3 : Int)) rfl
  clear L2 R T M k3
  go_wp2_with fail
  refine (unhide k4 _ L3.rd).mono ?_
  rintro e w4 ⟨rfl, R, T⟩
  have M := L3.turn R T
  have f := M.frozen 3
  have c : w4.cell? ⟨w.heap.size + 1 + 1, 3, none⟩ = some (.string (str [])) := M.cell 3
  have L4 := M.set (row' := #[.int .u32 (a1 : Int), .int .u32 (a2 : Int), .int .u32 (a3 : Int), .string (str a4), .string (str []), .string (str [])]) 3 (.string (str a4)) rfl
  clear L3 R T M k4
  go_wp2_with fail
  refine (unhide k5 _ L4.rd).mono ?_
  rintro e w5 ⟨rfl, R, T⟩
  have M := L4.turn R T
  have f := M.frozen 4
  have c : w5.cell? ⟨w.heap.size + 1 + 1, 4, none⟩ = some (.string (str [])) := M.cell 4
  have L5 := M.set (row' := #[.int .u32 (a1 : Int), .int .u32 (a2 : Int), .int .u32 (a3 : Int), .string (str a4), .string (str a5), .string (str [])]) 4 (.string (str a5)) rfl
  clear L4 R T M k5
  go_wp2_with fail
  refine (unhide k6 _ L5.rd).mono ?_
  rintro e w6 ⟨rfl, R, T⟩
  have M := L5.turn R T
  have f := M.frozen 5
  have c : w6.cell? ⟨w.heap.size + 1 + 1, 5, none⟩ = some (.string (str [])) := M.cell 5
  have L6 := M.set (row' := #[.int .u32 (a1 : Int), .int .u32 (a2 : Int), .int .u32 (a3 : Int), .string (str a4), .string (str a5), .string (str a6)]) 5 (.string (str a6)) rfl
  clear L5 R T M k6
  rw [unhide hcl] at L6
  go_wp2_with fail
  refine (unhide k7 _ L6.rd).mono ?_
  rintro e w7 ⟨rfl, rfl⟩
  have q0 := L6.res
  have q1 := L6.x
  have hb := L6.below
  clear k7 L6
  by_cases hE : E = 0
  · have hE' : (E != 0) = false := by simp [hE]
    have hc : ¬ E ≠ 0 := fun h => h hE
    have hA := unhide HA
    rw [if_neg hc] at hA
    have HB := hide hA
    clear hE hc hA HA
    go_wp2_with (refine wpList_load_row rfl 24 (.tmp 5) rfl (w.heap.size + 1 + 1) rfl 24 X.cells (0, 0) _ q1 Tryd.underlying24 rfl hil ?_)
    refine (unhide k8 _).mono ?_
    rintro e w8 ⟨rfl, b8⟩
    have q0' := Below.at b8 (Array.getElem?_eq_some_iff.1 q0).1 q0
    have q1' := Below.at b8 (Array.getElem?_eq_some_iff.1 q1).1 q1
    have hb' := hb.trans (b8.mono hb.size)
    clear q0 q1 hb b8
    cases R with
    | false =>
      have hA := unhide HB
      rw [if_neg (by simp)] at hA
      subst hA
      go_wp2_with (refine wpList_store_row rfl 24 (.tmp 2) (.tmp 40) rfl w.heap.size Lt.zero.cells rfl rfl 24 _ q0' hiz rfl hz ?_)
      exact bodyPost_ret (results_row_tmp rfl _ _ w.heap.size _ _ _ _ rfl (setRow_heap _ _ _ _ _ _ q0') Tryd.underlying24 rfl hiz) rfl ⟨rfl, below_setRow hb' (Nat.le_refl _) _⟩
    | true =>
      have hA := unhide HB
      rw [if_pos rfl] at hA
      subst hA
      go_wp2_with (first
        | (refine wpList_load_row rfl 24 (.tmp 5) rfl (w.heap.size + 1 + 1) rfl 24 X.cells (0, 0) _ q1' Tryd.underlying24 rfl hil ?_)
        | (refine wpList_store_row rfl 24 (.tmp 2) (.tmp 41) rfl w.heap.size X.cells rfl rfl 24 _ q0' hil hsl hol ?_))
      exact bodyPost_ret (results_row_tmp rfl _ _ w.heap.size _ _ _ _ rfl (setRow_heap _ _ _ _ _ _ q0') Tryd.underlying24 rfl hil) rfl ⟨rfl, below_setRow hb' (Nat.le_refl _) _⟩
  · have hE' : (E != 0) = true := by simp [hE]
    have hA := unhide HA
    rw [if_pos hE] at hA
    subst hA
    clear hE
    go_wp2_with (refine wpList_store_row rfl 24 (.tmp 2) (.tmp 35) rfl w.heap.size Lt.zero.cells rfl rfl 24 _ q0 hiz rfl hz ?_)
    exact bodyPost_ret (results_row_tmp rfl _ _ w.heap.size _ _ _ _ rfl (setRow_heap _ _ _ _ _ _ q0) Tryd.underlying24 rfl hiz) rfl ⟨rfl, below_setRow hb (Nat.le_refl _) _⟩
end Go.Proofs.YtefdlpddhkocbaaDoor

namespace Go.Proofs.YtefdlpddhkocbaaDoor
open Go.RowKit
set_option linter.unusedSimpArgs false
set_option linter.unusedVariables false

set_option maxHeartbeats 2000000 in
set_option maxRecDepth 100000 in
theorem lplain_calls (x : Lt) (ok : x.ok) (h1 : x.se.length ≤ 4000000000) (h2 : x.re.length ≤ 4000000000) (h3 : x.bo.length ≤ 4000000000) (w : World) :
    Calls Tryd.prog 9 #[.agg x.cells] w fun e w' => e = .returned (.string (str x.bytes)) ∧ Below w.heap.size w w' := by
  unfold Lt.bytes
  have hb0 := (Below.refl w.heap.size w).alloc (Nat.le_refl _) (.cells x.cells 24)
  have q0 := al1 w (.cells x.cells 24)
  have L1 := pBig_length x.fr 4
  have L2 := pBig_length x.no 4
  have L3 := pBig_length x.tt 4
  have L4 := pText4_length x.se
  have L5 := pText4_length x.re
  have L6 := pText4_length x.bo
  have w1 := fun w => rbig_calls x.fr 4 (Nat.lt_trans ok.fr (by decide)) (by decide) (by decide) w
  have w2 := fun w => rbig_calls x.no 4 (Nat.lt_trans ok.no (by decide)) (by decide) (by decide) w
  have w3 := fun w => rbig_calls x.tt 4 (Nat.lt_trans ok.tt (by decide)) (by decide) (by decide) w
  have w4 := fun w => rtext3_calls x.se (by omega) w
  have w5 := fun w => rtext3_calls x.re (by omega) w
  have w6 := fun w => rtext3_calls x.bo (by omega) w
  obtain ⟨fr, no, tt, se, re, bo⟩ := x
  simp only [Lt.cells] at *
  generalize pBig fr 4 = P1 at *
  generalize pBig no 4 = P2 at *
  generalize pBig tt 4 = P3 at *
  generalize pText4 se = P4 at *
  generalize pText4 re = P5 at *
  generalize pText4 bo = P6 at *
  have a1 := append_str P1 P2
  have a2 : str (P1 ++ P2) ++ str P3 = str (P1 ++ (P2 ++ P3)) := by rw [append_str]; simp
  have a3 : str (P1 ++ (P2 ++ P3)) ++ str P4 = str (P1 ++ (P2 ++ (P3 ++ P4))) := by rw [append_str]; simp
  have a4 : str (P1 ++ (P2 ++ (P3 ++ P4))) ++ str P5 = str (P1 ++ (P2 ++ (P3 ++ (P4 ++ P5)))) := by rw [append_str]; simp
  have a5 : str (P1 ++ (P2 ++ (P3 ++ (P4 ++ P5)))) ++ str P6 = str (P1 ++ (P2 ++ (P3 ++ (P4 ++ (P5 ++ P6))))) := by rw [append_str]; simp
  have n1 : ¬ 9223372036854775807 < P1.length + P2.length := by omega
  have n2 : ¬ 9223372036854775807 < P1.length + P2.length + P3.length := by omega
  have n3 : ¬ 9223372036854775807 < P1.length + (P2.length + P3.length) + P4.length := by omega
  have n4 : ¬ 9223372036854775807 < P1.length + (P2.length + (P3.length + P4.length)) + P5.length := by omega
  have n5 : ¬ 9223372036854775807 < P1.length + (P2.length + (P3.length + (P4.length + P5.length))) + P6.length := by omega
  have C1 := hide w1
  have C2 := hide w2
  have C3 := hide w3
  have C4 := hide w4
  have C5 := hide w5
  have C6 := hide w6
  have o1 := ok.fr
  have o2 := ok.no
  have o3 := ok.tt
  simp only at o1 o2 o3
  have u1 : IntKind.u64.wrap (fr : Int) = (fr : Int) := by rw [IntKind.wrap_u64]; omega
  have u2 : IntKind.u64.wrap (no : Int) = (no : Int) := by rw [IntKind.wrap_u64]; omega
  have u3 : IntKind.u64.wrap (tt : Int) = (tt : Int) := by rw [IntKind.wrap_u64]; omega
  clear w1 w2 w3 w4 w5 w6 L1 L2 L3 L4 L5 L6 h1 h2 h3 ok
  go_enter Tryd.func9, Tryd.ntmps9
  go_wp2_with fail
  refine (unhide C1 _).mono ?_
  rintro e v1 ⟨rfl, b1⟩
  have q1 := Below.at b1 (by simp) q0
  have hb1 := hb0.trans (b1.mono hb0.size)
  have z1 := (Array.getElem?_eq_some_iff.1 q1).1
  have d1 := (sig_cell q1).1 1 _ rfl
  clear b1 q0 hb0
  go_wp2_with fail
  refine (unhide C2 _).mono ?_
  rintro e v2 ⟨rfl, b2⟩
  have q2 := Below.at b2 z1 q1
  have hb2 := hb1.trans (b2.mono hb1.size)
  have z2 := (Array.getElem?_eq_some_iff.1 q2).1
  have d2 := (sig_cell q2).1 2 _ rfl
  clear b2 q1 hb1 z1 d1
  go_wp2_with fail
  refine (unhide C3 _).mono ?_
  rintro e X ⟨rfl, b3⟩
  have q3 := Below.at b3 z2 q2
  have hb3 := hb2.trans (b3.mono hb2.size)
  have hzX := (Array.getElem?_eq_some_iff.1 q3).1
  have cg : ∀ j v, (#[Value.int .u32 (fr : Int), .int .u32 (no : Int), .int .u32 (tt : Int), .string (str se), .string (str re), .string (str bo)] : Array Value)[j]? = some v → ∀ d os, (Sort.grow (redrawn X d) os).cell? ⟨w.heap.size, j, none⟩ = some v := fun j v hv d os => by
    rw [(below_regrown X d os).cell (p := ⟨w.heap.size, j, none⟩) hzX]; exact (sig_cell q3).1 j v hv
  have c3 : ∀ d os, (Sort.grow (redrawn X d) os).cell? ⟨w.heap.size, 3, none⟩ = some (.string (str se)) := cg 3 _ rfl
  have c4 : ∀ d os, (Sort.grow (redrawn X d) os).cell? ⟨w.heap.size, 4, none⟩ = some (.string (str re)) := cg 4 _ rfl
  have c5 : ∀ d os, (Sort.grow (redrawn X d) os).cell? ⟨w.heap.size, 5, none⟩ = some (.string (str bo)) := cg 5 _ rfl
  have k4 := hide fun d os => Calls.regrown_of (w := X) (d := d) (os := os) (unhide C4 _)
  have k5 := hide fun d os => Calls.regrown_of (w := X) (d := d) (os := os) (unhide C5 _)
  have k6 := hide fun d os => Calls.regrown_of (w := X) (d := d) (os := os) (unhide C6 _)
  clear cg b3 q2 hb2 z2 d2 q3
  go_wp2_with fail
  refine wp_region_below mixed (by kernel_rfl) ?_
  quiet_step (fail)
  quiet_step (fail)
  quiet_step (fail)
  quiet_step (exact unhide k4 _ _)
  quiet_step (fail)
  quiet_step (fail)
  quiet_step (fail)
  quiet_step (exact unhide k5 _ _)
  quiet_step (fail)
  quiet_step (fail)
  quiet_step (fail)
  quiet_step (exact unhide k6 _ _)
  repeat (quiet_step (fail))
  refine wpQuiet_nil ?_
  intro w3 hb4
  go_wp2
  go_ret
  exact ⟨rfl, hb3.trans (hb4.mono hb3.size)⟩

set_option maxHeartbeats 2000000 in
set_option maxRecDepth 100000 in
theorem lrsame_calls (x y : Lt) (w : World) :
    Calls Tryd.prog 13 #[.agg x.cells, .agg y.cells] w fun e w' => e = .returned (.bool (pLSame x y)) ∧ Below w.heap.size w w' := by
  obtain ⟨a1, a2, a3, a4, a5, a6⟩ := x
  obtain ⟨b1, b2, b3, b4, b5, b6⟩ := y
  unfold pLSame Lt.cells
  simp only
  obtain ⟨R, hR⟩ : ∃ R, (if a1 = b1 then if a2 = b2 then if a3 = b3 then if a4 = b4 then if a5 = b5 then decide (a6 = b6) else false else false else false else false else false) = R := ⟨_, rfl⟩
  rw [hR]
  have HR := hide hR
  have hb := hide (bel2 w (.cells #[.int .u32 (a1 : Int), .int .u32 (a2 : Int), .int .u32 (a3 : Int), .string (str a4), .string (str a5), .string (str a6)] 24) (.cells #[.int .u32 (b1 : Int), .int .u32 (b2 : Int), .int .u32 (b3 : Int), .string (str b4), .string (str b5), .string (str b6)] 24))
  have s : ∀ l m : List UInt8, ((str l).toList == (str m).toList) = decide (l = m) := fun l m => by
    rw [ByteArray.toList_eq, ByteArray.toList_eq, str_toList, str_toList, Bool.eq_iff_iff]; simp
  clear hR
  by_cases h1 : a1 = b1
  · have e1 : ((a1 : Int) == (b1 : Int)) = true := by simp; omega
    by_cases h2 : a2 = b2
    · have e2 : ((a2 : Int) == (b2 : Int)) = true := by simp; omega
      by_cases h3 : a3 = b3
      · have e3 : ((a3 : Int) == (b3 : Int)) = true := by simp; omega
        by_cases h4 : a4 = b4
        · have e4 : ((str a4).toList == (str b4).toList) = true := by rw [s]; simpa using h4
          by_cases h5 : a5 = b5
          · have e5 : ((str a5).toList == (str b5).toList) = true := by rw [s]; simpa using h5
            by_cases h6 : a6 = b6
            · have e6 : ((str a6).toList == (str b6).toList) = true := by rw [s]; simpa using h6
              go_enter Tryd.func13, Tryd.ntmps13
              go_wp2
              go_ret
              exact ⟨by rw [← unhide HR]; simp [h1, h2, h3, h4, h5, h6], bel2 w _ _⟩
            · have e6 : ((str a6).toList == (str b6).toList) = false := by rw [s]; simpa using h6
              go_enter Tryd.func13, Tryd.ntmps13
              go_wp2
              go_ret
              exact ⟨by rw [← unhide HR]; simp [h1, h2, h3, h4, h5, h6], bel2 w _ _⟩
          · have e5 : ((str a5).toList == (str b5).toList) = false := by rw [s]; simpa using h5
            go_enter Tryd.func13, Tryd.ntmps13
            go_wp2
            go_ret
            exact ⟨by rw [← unhide HR]; simp [h1, h2, h3, h4, h5], bel2 w _ _⟩
        · have e4 : ((str a4).toList == (str b4).toList) = false := by rw [s]; simpa using h4
          go_enter Tryd.func13, Tryd.ntmps13
          go_wp2
          go_ret
          exact ⟨by rw [← unhide HR]; simp [h1, h2, h3, h4], bel2 w _ _⟩
      · have e3 : ((a3 : Int) == (b3 : Int)) = false := by simp; omega
        go_enter Tryd.func13, Tryd.ntmps13
        go_wp2
        go_ret
        exact ⟨by rw [← unhide HR]; simp [h1, h2, h3], bel2 w _ _⟩
    · have e2 : ((a2 : Int) == (b2 : Int)) = false := by simp; omega
      go_enter Tryd.func13, Tryd.ntmps13
      go_wp2
      go_ret
      exact ⟨by rw [← unhide HR]; simp [h1, h2], bel2 w _ _⟩
  · have e1 : ((a1 : Int) == (b1 : Int)) = false := by simp; omega
    go_enter Tryd.func13, Tryd.ntmps13
    go_wp2
    go_ret
    exact ⟨by rw [← unhide HR]; simp [h1], bel2 w _ _⟩
end Go.Proofs.YtefdlpddhkocbaaDoor

namespace Go.Proofs.YtefdlpddhkocbaaDoor
open Go.RowKit
set_option linter.unusedSimpArgs false
set_option linter.unusedVariables false

/-- A letter's leaf. -/
def pLeaf (x : Lt) : List UInt8 := pOf 5 [x.bytes]
theorem pLeaf_length (x : Lt) : (pLeaf x).length = 32 := pOf_length _ _
set_option maxHeartbeats 2000000 in
set_option maxRecDepth 100000 in
theorem lleaf_calls (x : Lt) (ok : x.ok) (h1 : x.se.length ≤ 10000000) (h2 : x.re.length ≤ 10000000) (h3 : x.bo.length ≤ 10000000) (w : World) (tabs : Tabs w) :
    Calls Tryd.prog 14 #[.pointer none, .agg x.cells] w fun e w' => e = .returned (.agg (bc (pLeaf x))) ∧ Below w.heap.size w w' := by
  have cw := hide fun W => lwritten_calls x ok (by omega) (by omega) (by omega) W
  have hlen : x.bytes.length ≤ 100000000 := by unfold Lt.bytes; simp only [List.length_append, pBig_length, pText4_length]; omega
  have co := hide fun a cap W hs ht => ofNil_calls 5 (by decide) [x.bytes] (by simpa using hlen) (by simp) a cap W hs ht
  have hol := pOf_length 5 [x.bytes]
  have hi := let_info x
  have e : pLeaf x = pOf 5 [x.bytes] := rfl
  rw [e]
  have hi1 := digInfo _ hol
  have hz1 := zeroSize _ hol
  have ho1 : (bc (pOf 5 [x.bytes])).all (·.oneCell') = true := bc_oneCell _
  have HT := hide tabs
  clear tabs
  generalize pOf 5 [x.bytes] = D at *
  generalize x.bytes = B at *
  generalize x.cells = C at *
  obtain ⟨q0, q1⟩ := al2 w (.cells C 24) (.cells (bc (List.replicate 32 0)) 37)
  have hb1 := bel2 w (.cells C 24) (.cells (bc (List.replicate 32 0)) 37)
  clear h1 h2 h3 hlen ok e
  go_enter Tryd.func14, Tryd.ntmps14
  go_wp2_with (refine wpList_load_row rfl 24 (.tmp 3) rfl w.heap.size rfl 24 C (0, 0) _ q0 Tryd.underlying24 rfl hi ?_)
  refine (unhide cw _).mono ?_
  rintro e w2 ⟨rfl, b2⟩
  have q2 := Below.at b2 (by simp) q1
  have hb2 : Below w.heap.size w w2 := hb1.trans (b2.mono hb1.size)
  have z2 := (Array.getElem?_eq_some_iff.1 q2).1
  clear q0 q1 b2 hb1
  go_wp2_with fail
  refine (unhide co _ _ _ (strsAt_one w2 B _) (((unhide HT).below hb2 (Nat.le_refl _)).below' ((Below.refl _ w2).alloc (Nat.le_refl _) _))).mono ?_
  rintro e w3 ⟨rfl, b3⟩
  have q3 := Below.at b3 (by simp; omega) ((Below.heap_alloc w2 (.cells #[.string (str B)] 9) _ z2).trans q2)
  have hb3 : Below w.heap.size w w3 := (hb2.alloc hb2.size _).trans (b3.mono (by simp; omega))
  clear q2 b3 hb2
  go_wp2_with (refine wpList_store_row rfl 37 (.tmp 4) (.tmp 9) rfl (w.heap.size + 1) _ rfl rfl 37 _ q3 hi1 hz1 ho1 ?_)
  exact bodyPost_ret (results_cell_row rfl _ _ (w.heap.size + 1) _ _ _ _ rfl (setRow_heap _ _ _ _ _ _ q3) Tryd.underlying37 rfl hi1) rfl ⟨rfl, below_setRow hb3 (by omega) _⟩
set_option maxHeartbeats 2000000 in
set_option maxRecDepth 100000 in
theorem lrleaf_calls (x : Lt) (ok : x.ok) (h1 : x.se.length ≤ 10000000) (h2 : x.re.length ≤ 10000000) (h3 : x.bo.length ≤ 10000000) (w : World) :
    Calls Tryd.prog 15 #[.pointer none, .agg x.cells] w fun e w' => e = .returned (.agg (bc (pLeaf x))) ∧ Below w.heap.size w w' := by
  have cw := hide fun W => lplain_calls x ok (by omega) (by omega) (by omega) W
  have hlen : x.bytes.length ≤ 100000000 := by unfold Lt.bytes; simp only [List.length_append, pBig_length, pText4_length]; omega
  have co := hide fun a cap W hs => rofNil_calls 5 (by decide) [x.bytes] (by simpa using hlen) (by simp) a cap W hs
  have hol := pOf_length 5 [x.bytes]
  have hi := let_info x
  have e : pLeaf x = pOf 5 [x.bytes] := rfl
  rw [e]
  have hi1 := digInfo _ hol
  have hz1 := zeroSize _ hol
  have ho1 : (bc (pOf 5 [x.bytes])).all (·.oneCell') = true := bc_oneCell _
  generalize pOf 5 [x.bytes] = D at *
  generalize x.bytes = B at *
  generalize x.cells = C at *
  obtain ⟨q0, q1⟩ := al2 w (.cells C 24) (.cells (bc (List.replicate 32 0)) 37)
  have hb1 := bel2 w (.cells C 24) (.cells (bc (List.replicate 32 0)) 37)
  clear h1 h2 h3 hlen ok e
  go_enter Tryd.func15, Tryd.ntmps15
  go_wp2_with (refine wpList_load_row rfl 24 (.tmp 3) rfl w.heap.size rfl 24 C (0, 0) _ q0 Tryd.underlying24 rfl hi ?_)
  refine (unhide cw _).mono ?_
  rintro e w2 ⟨rfl, b2⟩
  have q2 := Below.at b2 (by simp) q1
  have hb2 : Below w.heap.size w w2 := hb1.trans (b2.mono hb1.size)
  have z2 := (Array.getElem?_eq_some_iff.1 q2).1
  clear q0 q1 b2 hb1
  go_wp2_with fail
  refine (unhide co _ _ _ (strsAt_one w2 B _) ).mono ?_
  rintro e w3 ⟨rfl, b3⟩
  have q3 := Below.at b3 (by simp; omega) ((Below.heap_alloc w2 (.cells #[.string (str B)] 9) _ z2).trans q2)
  have hb3 : Below w.heap.size w w3 := (hb2.alloc hb2.size _).trans (b3.mono (by simp; omega))
  clear q2 b3 hb2
  go_wp2_with (refine wpList_store_row rfl 37 (.tmp 4) (.tmp 9) rfl (w.heap.size + 1) _ rfl rfl 37 _ q3 hi1 hz1 ho1 ?_)
  exact bodyPost_ret (results_cell_row rfl _ _ (w.heap.size + 1) _ _ _ _ rfl (setRow_heap _ _ _ _ _ _ q3) Tryd.underlying37 rfl hi1) rfl ⟨rfl, below_setRow hb3 (by omega) _⟩
end Go.Proofs.YtefdlpddhkocbaaDoor

namespace Go.Proofs.YtefdlpddhkocbaaDoor
open Go.RowKit
set_option linter.unusedSimpArgs false
set_option linter.unusedVariables false

theorem dig_self (d : List UInt8) (hd : d.length = 32) (w : World) : (binOp .eql 37 (.agg (bc d)) (.agg (bc d))).run Tryd.prog w = .ok (.bool true) w := by
  obtain ⟨la, hla⟩ := keyLits_ints (P := Tryd.prog) 37 5 32 .u8 Tryd.underlying37 Tryd.underlying5 (by kernel_rfl) (by kernel_rfl) (d.map fun b => (b.toNat : Int)) (by simpa using hd) (fun z hz => by
    obtain ⟨b, _, rfl⟩ := List.mem_map.1 hz
    have := b.toNat_lt
    simp [Lit.wf, IntKind.min, IntKind.max, IntKind.signed, IntKind.bits]; omega)
  refine eql_refl 37 2 2 (by omega) (by kernel_rfl) _ ?_ la ?_ w
  · simp only [Value.formed, Tryd.underlying37, bc_size, hd]; kernel_rfl
  · rw [← hla]; simp [bc, Lib.byteCells]; rfl
end Go.Proofs.YtefdlpddhkocbaaDoor

namespace Go.Proofs.YtefdlpddhkocbaaDoor
open Go Go.RowKit

theorem wpQuiet_load_row {P : Program} {ops : Array Oper} {C : World → Prop} {Q : Act → Prop} {a : Act} {o : Oper} {rest : List Oper} (hw : Region.wanted o (yielded ops a.tmps) = true) (ty : TypeId) (x : Operand) (ho : o.op = .load ty x)
    (g : Nat) (hx : a.eval x = .pointer (some ⟨g, 0, none⟩)) (t : TypeId) (cs : Array Value) (fr : Nat × Nat) (d : TypeDesc) (hg : ∀ w, C w → w.heap[g]? = some (.cells cs t fr))
    (hu : P.underlying ty = some d) (hd : (match d with | .struct _ | .array _ _ => true | _ => false) = true) (hi : (P.info? ty).map (·.size) = some cs.size)
    (h : wpQuiet P ops C Q rest (a.put o.dst (.agg cs))) : wpQuiet P ops C Q (o :: rest) a := by
  show if _ then _ else _
  rw [if_pos hw]
  refine ⟨.agg cs, fun w hC => ?_, h⟩
  have hl := run_loadVar_row w g t ty cs fr d (hg w hC) hu hd hi
  unfold Oper.quietAt execOp
  simp only [ho, hx, Instr.loadAt, Instr.sureAddr, Sem.run_bind, Sem.run_pure, Result.andThen_ok, hl]
  exact ⟨rfl, rfl⟩
end Go.Proofs.YtefdlpddhkocbaaDoor

namespace Go.Proofs.YtefdlpddhkocbaaDoor
open Go.RowKit

theorem wpQuiet_load_mid {P : Program} {ops : Array Oper} {C : World → Prop} {Q : Act → Prop} {a : Act} {o : Oper} {rest : List Oper} (hw : Region.wanted o (yielded ops a.tmps) = true) (ty : TypeId) (x : Operand) (ho : o.op = .load ty x)
    (b off : Nat) (hx : a.eval x = .pointer (some ⟨b, off, none⟩)) (cs : List Value) (d : TypeDesc) (hc : ∀ w, C w → w.rangeAt b off cs)
    (hu : P.underlying ty = some d) (hd : d.isRow = true) (hi : (P.info? ty).map (·.size) = some cs.length)
    (h : wpQuiet P ops C Q rest (a.put o.dst (.agg cs.toArray))) : wpQuiet P ops C Q (o :: rest) a := by
  show if _ then _ else _
  rw [if_pos hw]
  refine ⟨.agg cs.toArray, fun w hC => ?_, h⟩
  have hl := run_loadVar_mid w b off ty cs d (hc w hC) hu hd hi
  unfold Oper.quietAt execOp
  simp only [ho, hx, Instr.loadAt, Instr.sureAddr, Sem.run_bind, Sem.run_pure, Result.andThen_ok, hl]
  exact ⟨rfl, rfl⟩
theorem wpQuiet_eql {P : Program} {ops : Array Oper} {C : World → Prop} {Q : Act → Prop} {a : Act} {o : Oper} {rest : List Oper} (hw : Region.wanted o (yielded ops a.tmps) = true) (t t' : TypeId) (x y : Operand) (ho : o.op = .binOp .eql t x y t')
    (u v : Array Value) (hx : a.eval x = .agg u) (hy : a.eval y = .agg v) (hgt : P.eqGuardType P.depth t = false) (b : Bool) (he : ∀ w, (binOp .eql t (.agg u) (.agg v)).run P w = .ok (.bool b) w)
    (h : wpQuiet P ops C Q rest (a.put o.dst (.bool b))) : wpQuiet P ops C Q (o :: rest) a := by
  show if _ then _ else _
  rw [if_pos hw]
  refine ⟨.bool b, fun w hC => ?_, h⟩
  have hg : (eqGuard .eql t x y (.agg u) (.agg v)).run P w = .ok () w := run_eqGuard_agg w .eql t x y u v hgt
  unfold Oper.quietAt execOp
  simp only [ho, hx, hy, Sem.run_bind, hg, Result.andThen_ok, he]
  exact ⟨rfl, rfl⟩
end Go.Proofs.YtefdlpddhkocbaaDoor

namespace Go.Proofs.YtefdlpddhkocbaaDoor
open Go.RowKit
set_option linter.unusedSimpArgs false
set_option linter.unusedVariables false

theorem wpList_store_newV {P : Program} {ops : Array Oper} {rest : List Oper} {op : Oper} {a : Act} {Q : Exit → Act → World → Prop} (hgd : op.guard = none) (ty : TypeId) (x y : Operand) (ho : op.op = .store ty x y)
    (W0 : World) (Z : Array Value) (t : TypeId) (D : Array Value) (hx : a.eval x = .pointer (some ⟨W0.heap.size, 0, none⟩)) (hy : a.eval y = .agg D)
    (hi : (P.info? ty).map (·.size) = some D.size) (hz : Z.size = D.size) (h1 : D.all (·.oneCell') = true)
    (h : ∀ w', w'.heap[W0.heap.size]? = some (.cells D t (0, 0)) → Below W0.heap.size W0 w' → w'.heap.size = W0.heap.size + 1 → wpList P ops Q rest (a.put op.dst undef) w') :
    wpList P ops Q (op :: rest) a (W0.alloc (.cells Z t)) := by
  refine wpList_store_row hgd ty x y ho W0.heap.size D hx hy t Z (al1 _ _) hi hz h1 ?_
  exact h _ (setRow_heap _ _ _ _ _ _ (al1 W0 (.cells Z t))) (below_setRow ((Below.refl _ _).alloc (Nat.le_refl _) _) (Nat.le_refl _) _) (by rw [setRow_size, World.size_alloc])
end Go.Proofs.YtefdlpddhkocbaaDoor
