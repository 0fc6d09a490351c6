/-
  THE TREE THAT IS KEPT: its root is that of its leaves. Plain lemmas.
-/
import Derived.Test.YtcmfahibdkflaaaDoorTreeR
namespace Go.Proofs.YtcmfahibdkflaaaDoor
open Go Go.RowKit
set_option linter.unusedSimpArgs false
set_option linter.unusedVariables false

/-- What stands in a tree's branches, where they count. -/
structure Kept (ds : List (List UInt8)) (L : List UInt8) : Prop where
  len : L.length = 1024
  at_ : ∀ k, k < 32 → ds.length / 2 ^ k % 2 = 1 → chk L k = st ds k (ds.length / 2 ^ k - 1)
theorem st_snoc (ds : List (List UInt8)) (leaf : List UInt8) : ∀ k i, (i + 1) * 2 ^ k ≤ ds.length → st (ds ++ [leaf]) k i = st ds k i
  | 0, i, h => by
    rw [Nat.pow_zero, Nat.mul_one] at h
    show pStand _ _ _ = pStand _ _ _
    unfold pStand
    rw [if_pos (by simp; omega), if_pos (by omega)]
    simp [List.getD, List.getElem?_append_left (show i < ds.length by omega)]
  | k + 1, i, h => by
    have e : (i + 1) * 2 ^ (k + 1) = (2 * i + 1 + 1) * 2 ^ k := by rw [Nat.pow_succ, Nat.mul_comm (2 ^ k) 2, ← Nat.mul_assoc]; congr 1; omega
    rw [e] at h
    have h2 : (2 * i + 1) * 2 ^ k ≤ ds.length := Nat.le_trans (Nat.mul_le_mul_right _ (by omega)) h
    show pNode _ _ = pNode _ _
    rw [st_snoc ds leaf k (2 * i) h2, st_snoc ds leaf k (2 * i + 1) h]
theorem st_behind (ds : List (List UInt8)) : ∀ k i, ds.length ≤ i * 2 ^ k → st ds k i = pNought k
  | 0, i, h => by
    rw [Nat.pow_zero, Nat.mul_one] at h
    show pStand _ _ _ = _
    unfold pStand
    rw [if_neg (by omega)]
  | k + 1, i, h => by
    have e : i * 2 ^ (k + 1) = (2 * i) * 2 ^ k := by rw [Nat.pow_succ, Nat.mul_comm (2 ^ k) 2, ← Nat.mul_assoc]; congr 1; omega
    rw [e] at h
    show pNode _ _ = pNode _ _
    rw [st_behind ds k (2 * i) h, st_behind ds k (2 * i + 1) (Nat.le_trans h (Nat.mul_le_mul_right _ (by omega)))]
theorem odd_pos (B : Nat) (h : B % 2 = 1) : 1 ≤ B := by omega
theorem half (n k : Nat) : n / 2 ^ (k + 1) = n / 2 ^ k / 2 := by rw [Nat.pow_succ, ← Nat.div_div_eq_div_mul]
/-- The root of a tree that was kept is that of its leaves. -/
theorem top_st (ds : List (List UInt8)) (L : List UInt8) (h : Kept ds L) : ∀ k, k ≤ 32 → pTop ds.length L k = st ds k (ds.length / 2 ^ k)
  | 0, _ => by
    rw [Nat.pow_zero, Nat.div_one]
    exact (st_behind ds 0 _ (by simp)).symm
  | k + 1, hk => by
    have ih := top_st ds L h k (by omega)
    show (if ds.length / 2 ^ k % 2 = 1 then pNode (chk L k) (pTop ds.length L k) else pNode (pTop ds.length L k) (pNought k)) = pNode (st ds k (2 * (ds.length / 2 ^ (k + 1)))) (st ds k (2 * (ds.length / 2 ^ (k + 1)) + 1))
    have hat := h.at_ k (by omega)
    have hbe : pNought k = st ds k (ds.length / 2 ^ k + 1) := by
      refine (st_behind ds k _ ?_).symm
      have := Nat.lt_div_mul_add (a := ds.length) (b := 2 ^ k) (Nat.two_pow_pos k)
      rw [Nat.add_mul]; omega
    rw [half, ih]
    generalize ds.length / 2 ^ k = B at *
    by_cases hb : B % 2 = 1
    · rw [if_pos hb, hat hb, show 2 * (B / 2) = B - 1 by omega, show B - 1 + 1 = B by omega]
    · rw [if_neg hb, hbe, show 2 * (B / 2) = B by omega]
/-- A leaf more. -/
theorem part_st (ds : List (List UInt8)) (leaf L : List UInt8) (hl : leaf.length = 32) (h : Kept ds L) : ∀ k, k ≤ 32 → (∀ j, j < k → (ds.length + 1) / 2 ^ j % 2 = 0) → pPart L leaf k = st (ds ++ [leaf]) k ((ds.length + 1) / 2 ^ k - 1)
  | 0, _, _ => by
    rw [Nat.pow_zero, Nat.div_one, Nat.add_sub_cancel]
    show leaf = pStand _ _ _
    unfold pStand
    rw [if_pos (by simp)]
    simp [List.getD]
  | k + 1, hk, hz => by
    have ih := part_st ds leaf L hl h k (by omega) (fun j hj => hz j (by omega))
    have hz1 := hz k (by omega)
    have hlow := low_zero (ds.length + 1) k (fun j hj => hz j (by omega))
    have hdm := Nat.div_add_mod (ds.length + 1) (2 ^ k)
    rw [hlow, Nat.add_zero] at hdm
    have h1 : 1 ≤ (ds.length + 1) / 2 ^ k := by
      by_cases h0 : (ds.length + 1) / 2 ^ k = 0
      · rw [h0, Nat.mul_zero] at hdm; omega
      · exact Nat.pos_of_ne_zero h0
    have hp := Nat.two_pow_pos k
    have hn : ds.length / 2 ^ k = (ds.length + 1) / 2 ^ k - 1 := by
      obtain ⟨q, hq⟩ : ∃ q, (ds.length + 1) / 2 ^ k = q + 1 := ⟨_, (Nat.sub_add_cancel h1).symm⟩
      rw [hq] at hdm ⊢
      rw [Nat.add_sub_cancel]
      have e : ds.length = 2 ^ k * q + (2 ^ k - 1) := by rw [Nat.mul_add, Nat.mul_one] at hdm; omega
      rw [e, Nat.mul_add_div hp, Nat.div_eq_of_lt (by omega), Nat.add_zero]
    have hat := h.at_ k (by omega)
    have hsn : ((ds.length + 1) / 2 ^ k - 2 + 1) * 2 ^ k ≤ ds.length ∨ (ds.length + 1) / 2 ^ k < 2 := by
      by_cases h2 : (ds.length + 1) / 2 ^ k < 2
      · exact .inr h2
      · left
        obtain ⟨q, hq⟩ : ∃ q, (ds.length + 1) / 2 ^ k = q + 2 := ⟨_, (Nat.sub_add_cancel (by omega)).symm⟩
        rw [hq] at hdm ⊢
        rw [Nat.add_sub_cancel, Nat.mul_comm]
        rw [Nat.mul_add] at hdm ⊢
        omega
    have hst := st_snoc ds leaf k ((ds.length + 1) / 2 ^ k - 2)
    show pNode (chk L k) (pPart L leaf k) = pNode (st (ds ++ [leaf]) k (2 * ((ds.length + 1) / 2 ^ (k + 1) - 1))) (st (ds ++ [leaf]) k (2 * ((ds.length + 1) / 2 ^ (k + 1) - 1) + 1))
    rw [ih, half]
    rw [hn] at hat
    generalize (ds.length + 1) / 2 ^ k = B at *
    have hB2 : 2 ≤ B := by omega
    rw [hat (by omega), show 2 * (B / 2 - 1) = B - 2 by omega, show B - 2 + 1 = B - 1 by omega, hst (hsn.resolve_right (by omega)), show B - 1 - 1 = B - 2 by omega]
theorem chk_put (L D : List UInt8) (hL : L.length = 1024) (hD : D.length = 32) (k j : Nat) (hk : k < 32) (hj : j < 32) : chk (putAt L (k * 32) D) j = if j = k then D else chk L j := by
  unfold chk putAt
  rcases Nat.lt_trichotomy j k with h | h | h
  · rw [if_neg (by omega), List.append_assoc, List.drop_append_of_le_length (by simp; omega), List.take_append_of_le_length (by simp; omega), List.drop_take, List.take_take]
    congr 1
    omega
  · subst h
    rw [if_pos rfl, List.append_assoc, List.drop_append, List.drop_of_length_le (by simp; omega)]
    have e : j * 32 - (L.take (j * 32)).length = 0 := by simp; omega
    rw [e, List.nil_append, List.drop_zero, List.take_append_of_le_length (by omega)]
    exact List.take_of_length_le (by omega)
  · rw [if_neg (by omega), List.drop_append, List.drop_of_length_le (by simp; omega)]
    have e : (L.take (k * 32) ++ D).length = k * 32 + 32 := by simp; omega
    rw [e, List.nil_append, List.drop_drop, hD]
    congr 2
    omega
theorem Kept.snoc {ds : List (List UInt8)} {L leaf : List UInt8} (h : Kept ds L) (hl : leaf.length = 32) {k : Nat} (hlow : Low (ds.length + 1) k) (hk : k ≤ 12) : Kept (ds ++ [leaf]) (putAt L (k * 32) (pPart L leaf k)) := by
  have hPl := pPart_length L leaf hl k
  refine ⟨by rw [putAt_length _ _ _ (by rw [hPl, h.len]; omega)]; exact h.len, fun j hj hb => ?_⟩
  rw [List.length_append, List.length_singleton] at hb ⊢
  rw [chk_put L _ h.len hPl k j (by omega) hj]
  by_cases e : j = k
  · subst e
    rw [if_pos rfl]
    exact part_st ds leaf L hl h j (by omega) hlow.2
  · rw [if_neg e]
    have hkj : k < j := by
      rcases Nat.lt_trichotomy j k with h1 | h1 | h1
      · have := hlow.2 j h1; omega
      · exact absurd h1 e
      · exact h1
    have hq : (ds.length + 1) / 2 ^ j = ds.length / 2 ^ j := by
      have hk1 := hlow.1
      have hp := Nat.two_pow_pos k
      obtain ⟨d, rfl⟩ : ∃ d, j = k + 1 + d := ⟨j - k - 1, by omega⟩
      have hlz := low_zero (ds.length + 1) k hlow.2
      have hdm := Nat.div_add_mod (ds.length + 1) (2 ^ k)
      rw [hlz, Nat.add_zero] at hdm
      have e1 : ∀ n : Nat, n / 2 ^ (k + 1 + d) = n / 2 ^ k / 2 / 2 ^ d := fun n => by
        rw [Nat.pow_add, Nat.pow_succ, ← Nat.div_div_eq_div_mul, ← Nat.div_div_eq_div_mul]
      rw [e1, e1]
      congr 1
      obtain ⟨q, hq⟩ : ∃ q, (ds.length + 1) / 2 ^ k = q + 1 := ⟨_, (Nat.sub_add_cancel (odd_pos _ hk1)).symm⟩
      rw [hq] at hdm hk1 ⊢
      have e2 : ds.length / 2 ^ k = q := by
        have e : ds.length = 2 ^ k * q + (2 ^ k - 1) := by rw [Nat.mul_add, Nat.mul_one] at hdm; omega
        rw [e, Nat.mul_add_div hp, Nat.div_eq_of_lt (by omega), Nat.add_zero]
      rw [e2]; omega
    rw [hq] at hb ⊢
    rw [h.at_ j hj hb]
    refine (st_snoc ds leaf j _ ?_).symm
    have := Nat.div_mul_le_self ds.length (2 ^ j)
    have h1 : 1 ≤ ds.length / 2 ^ j := odd_pos _ hb
    rw [Nat.sub_add_cancel h1]; exact this
theorem kept_nil : Kept [] (List.replicate 1024 0) := ⟨List.length_replicate, fun k _ h => by rw [List.length_nil, Nat.zero_div] at h; cases h⟩
theorem low_unique {m k l : Nat} (h1 : Low m k) (h2 : Low m l) : k = l := by
  rcases Nat.lt_trichotomy k l with h | h | h
  · have := h2.2 k h; have := h1.1; omega
  · exact h
  · have := h1.2 l h; have := h2.1; omega
/-- The tree into which the leaves were put, one behind the other. -/
inductive KeptBy : List (List UInt8) → List UInt8 → Prop where
  | nil : KeptBy [] (List.replicate 1024 0)
  | snoc (ds : List (List UInt8)) (L leaf : List UInt8) (k : Nat) : KeptBy ds L → leaf.length = 32 → Low (ds.length + 1) k → k ≤ 12 → KeptBy (ds ++ [leaf]) (putAt L (k * 32) (pPart L leaf k))
theorem KeptBy.kept {ds : List (List UInt8)} {L : List UInt8} (h : KeptBy ds L) : Kept ds L := by
  induction h with
  | nil => exact kept_nil
  | snoc ds L leaf k _ hl hlow hk ih => exact ih.snoc hl hlow hk
theorem KeptBy.unique {ds : List (List UInt8)} {L : List UInt8} (h : KeptBy ds L) : ∀ {L' : List UInt8}, KeptBy ds L' → L = L' := by
  induction h with
  | nil =>
    intro L' h'
    generalize he : ([] : List (List UInt8)) = es at h'
    cases h' with
    | nil => rfl
    | snoc ds' M leaf' k' _ _ _ _ => exact absurd he.symm (by simp)
  | snoc ds L leaf k _ hl hlow hk ih =>
    intro L' h'
    generalize he : ds ++ [leaf] = es at h'
    cases h' with
    | nil => exact absurd he (by simp)
    | snoc ds' M leaf' k' hM hl' hlow' hk' =>
      obtain ⟨rfl, e2⟩ := List.append_inj' he rfl
      obtain rfl : leaf = leaf' := by simpa using e2
      obtain rfl := low_unique hlow hlow'
      rw [ih hM]
end Go.Proofs.YtcmfahibdkflaaaDoor
