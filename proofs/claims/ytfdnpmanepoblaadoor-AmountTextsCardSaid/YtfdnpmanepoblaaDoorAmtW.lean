/-
  NUMBERS AND THEIR DIGITS, PLAIN: what is read of a number's digits is it.
-/
import Derived.Test.YtfdnpmanepoblaaDoorAmtV
namespace Go.Proofs.YtfdnpmanepoblaaDoor
open Go Go.RowKit
set_option linter.unusedSimpArgs false
set_option linter.unusedVariables false

/-- The number of digits, from a number on. -/
def numFrom (n : Nat) (l : List UInt8) : Nat := l.foldl (fun n b => n * 10 + (b.toNat - 48)) n
theorem numFrom_append (n : Nat) (a b : List UInt8) : numFrom n (a ++ b) = numFrom (numFrom n a) b := by simp [numFrom]
def isDig (b : UInt8) : Prop := 48 ≤ b.toNat ∧ b.toNat ≤ 57
theorem dig_ofNat (k : Nat) (h : k < 10) : (UInt8.ofNat (48 + k)).toNat = 48 + k := by rw [UInt8.toNat_ofNat']; omega
theorem pDec_digits : ∀ (n u : Nat), u ≤ n → (∀ b ∈ pDec u, isDig b) ∧ numFrom 0 (pDec u) = u
  | n, u, h => by
    by_cases h1 : u < 10
    · rw [pDec_one u h1]
      refine ⟨fun b hb => ?_, ?_⟩
      · obtain rfl : b = UInt8.ofNat (48 + u) := by simpa using hb
        unfold isDig; rw [dig_ofNat u h1]; omega
      · simp [numFrom]; omega
    · match n, h with
      | 0, h => omega
      | n + 1, h =>
        obtain ⟨i1, i2⟩ := pDec_digits n (u / 10) (by omega)
        rw [pDec_more u h1]
        refine ⟨fun b hb => ?_, ?_⟩
        · rcases List.mem_append.1 hb with hb | hb
          · exact i1 b hb
          · obtain rfl : b = UInt8.ofNat (48 + u % 10) := by simpa using hb
            unfold isDig; rw [dig_ofNat _ (by omega)]; omega
        · rw [numFrom_append, i2]
          simp only [numFrom, List.foldl_cons, List.foldl_nil, dig_ofNat (u % 10) (by omega)]
          omega
theorem pDec_num (u : Nat) : numFrom 0 (pDec u) = u := (pDec_digits u u (Nat.le_refl _)).2
theorem pDec_dig (u : Nat) : ∀ b ∈ pDec u, isDig b := (pDec_digits u u (Nat.le_refl _)).1
theorem pDec_inj (u v : Nat) (h : pDec u = pDec v) : u = v := by rw [← pDec_num u, h, pDec_num]
/-- The number that a text is. -/
def IsNum (l : List UInt8) (u : Nat) : Prop := u < 18446744073709551616 ∧ pDec u = l
open Classical in
noncomputable def pRead8 (l : List UInt8) : Nat × Bool := if h : ∃ u, IsNum l u then (Classical.choose h, true) else (0, false)
theorem pRead8_yes (l : List UInt8) (u : Nat) (h : IsNum l u) : pRead8 l = (u, true) := by
  unfold pRead8
  rw [dif_pos ⟨u, h⟩]
  have := Classical.choose_spec (⟨u, h⟩ : ∃ u, IsNum l u)
  rw [pDec_inj _ u (this.2.trans h.2.symm)]
theorem pRead8_no (l : List UInt8) (h : ¬ ∃ u, IsNum l u) : pRead8 l = (0, false) := by
  unfold pRead8
  rw [dif_neg h]
theorem numFrom_ge : ∀ (l : List UInt8) (n : Nat), n ≤ numFrom n l
  | [], n => Nat.le_refl _
  | b :: l, n => by
    have := numFrom_ge l (n * 10 + (b.toNat - 48))
    show n ≤ numFrom (n * 10 + (b.toNat - 48)) l
    omega
theorem parse_num : ∀ (l : List UInt8) (n : Nat), (∀ b ∈ l, isDig b) → numFrom n l < 18446744073709551616 → Lib.parseUintM 18446744073709551615 n l = .ok (numFrom n l)
  | [], n, _, _ => rfl
  | b :: l, n, h, hlt => by
    have hd := h b (by simp)
    unfold isDig at hd
    have hge := numFrom_ge l (n * 10 + (b.toNat - 48))
    have hlt' : numFrom (n * 10 + (b.toNat - 48)) l < 18446744073709551616 := hlt
    unfold Lib.parseUintM
    rw [if_pos hd, if_neg (by omega), if_neg (by omega)]
    exact parse_num l _ (fun c hc => h c (by simp [hc])) hlt'
theorem parse_le : ∀ (l : List UInt8) (M n u : Nat), n ≤ M → Lib.parseUintM M n l = .ok u → u ≤ M
  | [], M, n, u, h, e => by
    have : n = u := by simpa [Lib.parseUintM] using e
    omega
  | b :: l, M, n, u, h, e => by
    unfold Lib.parseUintM at e
    split at e
    · split at e
      · cases e
      · split at e
        · cases e
        · exact parse_le l M _ u (by omega) e
    · cases e
theorem parse_yes (l : List UInt8) (u : Nat) (h : IsNum l u) : Lib.parseUintB 64 l = .ok u := by
  have hne : l ≠ [] := by
    intro h0
    have := pDec_pos u
    rw [h.2, h0] at this
    simp at this
  unfold Lib.parseUintB
  rw [if_neg hne]
  have hn : numFrom 0 l = u := by rw [← h.2]; exact pDec_num u
  have := parse_num l 0 (by rw [← h.2]; exact pDec_dig u) (by rw [hn]; exact h.1)
  rw [hn] at this
  exact this
theorem parse_is (l : List UInt8) (u : Nat) (h : Lib.parseUintB 64 l = .ok u) (hd : pDec u = l) : IsNum l u := by
  refine ⟨?_, hd⟩
  unfold Lib.parseUintB at h
  split at h
  · cases h
  · have := parse_le l _ 0 u (Nat.zero_le _) h
    have e : (2 : Nat) ^ 64 - 1 = 18446744073709551615 := by decide
    omega
end Go.Proofs.YtfdnpmanepoblaaDoor
