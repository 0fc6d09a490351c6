/-
  THE TREE: each leaf's branch proves it. Plain lemmas over the digests' lists.
-/
import Derived.Test.YtcmfahibdkflaaaDoorMerkF
namespace Go.Proofs.YtcmfahibdkflaaaDoor
open Go Go.RowKit
set_option linter.unusedSimpArgs false
set_option linter.unusedVariables false

/-- What stands at a place of a level. -/
def st (ds : List (List UInt8)) : Nat → Nat → List UInt8
  | 0, i => pStand ds i (pNought 0)
  | k + 1, i => pNode (st ds k (2 * i)) (st ds k (2 * i + 1))
theorem stand_st (ds : List (List UInt8)) : ∀ k i, pStand (pLev ds k) i (pNought k) = st ds k i
  | 0, i => rfl
  | k + 1, i => by
    have ih := stand_st ds k
    show _ = pNode (st ds k (2 * i)) (st ds k (2 * i + 1))
    rw [← ih (2 * i), ← ih (2 * i + 1)]
    show pStand (pAbove (pLev ds k) (pNought k)) i (pNode (pNought k) (pNought k)) = _
    generalize pLev ds k = L
    generalize pNought k = z
    by_cases h : i < (L.length + 1) / 2
    · have e : pStand (pAbove L z) i (pNode z z) = aboveAt L z i := by
        unfold pStand
        rw [if_pos (by rw [pAbove_length]; exact h), pAbove_at L z i h]
      rw [e]
      unfold aboveAt
      have e2 : pStand L (2 * i) z = L.getD (2 * i) [] := by unfold pStand; rw [if_pos (by omega)]
      rw [e2]
    · have e : pStand (pAbove L z) i (pNode z z) = pNode z z := by
        unfold pStand
        rw [if_neg (by rw [pAbove_length]; exact h)]
      have e1 : pStand L (2 * i) z = z := by unfold pStand; rw [if_neg (by omega)]
      have e2 : pStand L (2 * i + 1) z = z := by unfold pStand; rw [if_neg (by omega)]
      rw [e, e1, e2]
theorem xor1 (B : Nat) : B ^^^ 1 = if B % 2 = 1 then B - 1 else B + 1 := by
  have h1 : (B ^^^ 1) / 2 = B / 2 := by rw [Nat.xor_div_two]; simp
  have h2 : (B ^^^ 1) % 2 ^ 1 = (B % 2 ^ 1) ^^^ (1 % 2 ^ 1) := Nat.xor_mod_two_pow
  rw [Nat.pow_one] at h2
  rcases Nat.mod_two_eq_zero_or_one B with h | h
  · rw [h] at h2
    rw [h, if_neg (by decide)]
    have h3 : (B ^^^ 1) % 2 = 1 := h2
    omega
  · rw [h] at h2
    rw [h, if_pos rfl]
    have h3 : (B ^^^ 1) % 2 = 0 := h2
    omega
theorem of_st (ds : List (List UInt8)) (h : ds.length ≤ 4096) : pOfD ds = st ds 32 0 := by
  unfold pOfD
  rw [List.take_of_length_le h, stand_st]
theorem branch_at (ds : List (List UInt8)) (x k : Nat) (hk : k < 32) : (pBranch ds x).getD k [] = st ds k ((x / 2 ^ k) ^^^ 1) := by
  unfold pBranch
  simp [hk, sideAt, stand_st]
theorem climb_st (ds : List (List UInt8)) (x : Nat) (leaf : List UInt8) (hl : leaf = st ds 0 x) : ∀ k, k ≤ 32 → pClimb leaf x (pBranch ds x) k = st ds k (x / 2 ^ k)
  | 0, _ => by rw [Nat.pow_zero, Nat.div_one]; exact hl
  | k + 1, hk => by
    have ih := climb_st ds x leaf hl k (by omega)
    have e : x / 2 ^ (k + 1) = x / 2 ^ k / 2 := by rw [Nat.pow_succ, ← Nat.div_div_eq_div_mul]
    show (if x / 2 ^ k % 2 = 1 then pNode ((pBranch ds x).getD k []) (pClimb leaf x (pBranch ds x) k) else pNode (pClimb leaf x (pBranch ds x) k) ((pBranch ds x).getD k [])) = _
    rw [branch_at ds x k (by omega), ih, e, xor1]
    generalize x / 2 ^ k = B
    show _ = pNode (st ds k (2 * (B / 2))) (st ds k (2 * (B / 2) + 1))
    by_cases h : B % 2 = 1
    · rw [if_pos h, if_pos h, show 2 * (B / 2) = B - 1 by omega, show B - 1 + 1 = B by omega]
    · rw [if_neg h, if_neg h, show 2 * (B / 2) = B by omega]
/-- Each leaf's branch proves it. -/
theorem branch_proves (ds : List (List UInt8)) (h : ds.length ≤ 4096) (x : Nat) (hx : x < ds.length) : pProves (pOfD ds) (ds.getD x []) x (pBranch ds x) = true := by
  unfold pProves
  rw [pBranch_length, of_st ds h]
  have e := climb_st ds x (ds.getD x []) (by show _ = pStand ds x _; unfold pStand; rw [if_pos hx]) 32 (Nat.le_refl _)
  rw [Nat.div_eq_of_lt (show x < 2 ^ 32 by omega)] at e
  rw [e]; simp
theorem of_nil : pOfD [] = pNought 32 := by
  rw [of_st [] (by simp)]
  have : ∀ k i, st [] k i = pNought k := fun k => by
    induction k with
    | zero => intro i; show pStand [] i _ = _; unfold pStand; simp
    | succ k ih => intro i; show pNode _ _ = _; rw [ih, ih]; rfl
  exact this 32 0
end Go.Proofs.YtcmfahibdkflaaaDoor
