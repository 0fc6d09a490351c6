/-
  A NUMBER IN BASE SIXTEEN, READ AGAIN: pure facts.
-/
import Derived.Test.YtdkcgiifldhdeaaDoorNameHex
namespace Go.Proofs.YtdkcgiifldhdeaaDoor
open Go.RowKit
set_option linter.unusedSimpArgs false
set_option linter.unusedVariables false

/-- What a sign counts in base sixteen; 16, if it is none. -/
def hexv (c : UInt8) : Nat := if 48 ≤ c.toNat ∧ c.toNat ≤ 57 then c.toNat - 48 else if 97 ≤ c.toNat ∧ c.toNat ≤ 102 then c.toNat - 87 else 16
theorem hexv_hexd : ∀ d : Nat, d < 16 → hexv (hexd d) = d := by decide
theorem hexd_not : ∀ d : Nat, d < 16 → hexd d ≠ 59 ∧ hexd d ≠ 34 ∧ hexd d ≠ 92 := by decide
theorem hexN_mem : ∀ (f n : Nat), ∀ c ∈ hexN f n, ∃ d, d < 16 ∧ c = hexd d
  | 0, n, c, h => ⟨n % 16, by omega, by simpa [hexN] using h⟩
  | f + 1, n, c, h => by
    rw [hexN_succ] at h
    by_cases hn : n < 16
    · rw [if_pos hn] at h
      exact ⟨n, hn, by simpa using h⟩
    · rw [if_neg hn] at h
      rcases List.mem_append.1 h with h | h
      · exact hexN_mem f _ c h
      · exact ⟨n % 16, by omega, by simpa using h⟩
theorem pHex_mem (n : Nat) (c : UInt8) (h : c ∈ pHex n) : ∃ d, d < 16 ∧ c = hexd d := hexN_mem 8 n c h
def hexFold (a : Nat) (l : List UInt8) : Nat := l.foldl (fun a c => 16 * a + hexv c) a
theorem hexFold_append (a : Nat) (l m : List UInt8) : hexFold a (l ++ m) = hexFold (hexFold a l) m := by unfold hexFold; rw [List.foldl_append]
theorem hexN_val : ∀ (f n : Nat), n < 16 ^ (f + 1) → hexFold 0 (hexN f n) = n
  | 0, n, h => by
    have h' : n < 16 := h
    show 16 * 0 + hexv (hexd (n % 16)) = n
    rw [hexv_hexd _ (by omega)]; omega
  | f + 1, n, h => by
    rw [hexN_succ]
    by_cases hn : n < 16
    · rw [if_pos hn]
      show 16 * 0 + hexv (hexd n) = n
      rw [hexv_hexd _ hn]; omega
    · rw [if_neg hn, hexFold_append, hexN_val f (n / 16) (by
        rw [Nat.div_lt_iff_lt_mul (by omega)]
        rw [show 16 ^ (f + 1) * 16 = 16 ^ (f + 1 + 1) by rw [← Nat.pow_succ]]; exact h)]
      show 16 * (n / 16) + hexv (hexd (n % 16)) = n
      rw [hexv_hexd _ (by omega)]; omega
theorem pHex_val (n : Nat) (h : n < 4294967296) : hexFold 0 (pHex n) = n := hexN_val 8 n (by show n < 68719476736; omega)
theorem hexN_ne (f n : Nat) : hexN f n ≠ [] := by
  cases f with
  | zero => simp [hexN]
  | succ f => rw [hexN_succ]; split <;> simp
theorem pHex_ne (n : Nat) : pHex n ≠ [] := hexN_ne 8 n
theorem hexN_len : ∀ (k f n : Nat), n < 16 ^ (k + 1) → k ≤ f → (hexN f n).length ≤ k + 1
  | 0, f, n, h, _ => by
    have h' : n < 16 := h
    cases f with
    | zero => simp [hexN]
    | succ f => rw [hexN_succ, if_pos h']; simp
  | k + 1, 0, n, h, hk => by omega
  | k + 1, f + 1, n, h, hk => by
    rw [hexN_succ]
    by_cases hn : n < 16
    · rw [if_pos hn]; simp
    · rw [if_neg hn, List.length_append]
      have := hexN_len k f (n / 16) (by
        rw [Nat.div_lt_iff_lt_mul (by omega)]
        rw [show 16 ^ (k + 1) * 16 = 16 ^ (k + 1 + 1) by rw [← Nat.pow_succ]]; exact h) (by omega)
      show _ + 1 ≤ _
      omega
theorem pHex_len6 (n : Nat) (h : n < 16777216) : (pHex n).length ≤ 6 := hexN_len 5 8 n h (by omega)
end Go.Proofs.YtdkcgiifldhdeaaDoor
