/-
  LONG DIVISION OF TWO DIGITS OF BASE 2^32 (math/bits.Div64's way): plain lemmas over Nat. No program is named here.
-/
import Derived.WalkKit
import Derived.Lib.BitFns
namespace Go.Proofs.Ytajeicabfcelaaa
set_option maxRecDepth 100000
namespace DivP

theorem below (q r u u1 y1 y0 : Nat) (h : q * y1 + r = u) (hq : q * y0 ≤ 4294967296 * r + u1) : q * (y1 * 4294967296 + y0) ≤ u * 4294967296 + u1 := by
  rw [Nat.mul_add, ← Nat.mul_assoc]
  generalize q * y1 = a at *
  generalize q * y0 = b at *
  omega
theorem above (q r u u1 y1 y0 : Nat) (h : q * y1 + r = u) (hq : 4294967296 * r + u1 < q * y0) : u * 4294967296 + u1 < q * (y1 * 4294967296 + y0) := by
  rw [Nat.mul_add, ← Nat.mul_assoc]
  generalize q * y1 = a at *
  generalize q * y0 = b at *
  omega
/-- What is known of a digit that is guessed: it isn't too small, and not by much too great. -/
structure Guess (u u1 y1 y0 q r : Nat) : Prop where
  sum : q * y1 + r = u
  ge : (u * 4294967296 + u1) / (y1 * 4294967296 + y0) ≤ q
  le : q ≤ 4294967297
theorem le1 (u y1 y0 : Nat) (h1 : 2147483648 ≤ y1) (h0 : y0 < 4294967296) (hu : u < y1 * 4294967296 + y0) : u < y1 * (4294967296 + 2) := by rw [Nat.mul_add]; omega
theorem first (u u1 y1 y0 : Nat) (h1 : 2147483648 ≤ y1) (h1' : y1 < 4294967296) (h0 : y0 < 4294967296) (hu : u < y1 * 4294967296 + y0) (hu1 : u1 < 4294967296) :
    Guess u u1 y1 y0 (u / y1) (u - u / y1 * y1) ∧ u - u / y1 * y1 < y1 := by
  have hm := Nat.div_add_mod u y1
  have hl := Nat.mod_lt u (show 0 < y1 by omega)
  rw [Nat.mul_comm] at hm
  refine ⟨⟨by omega, ?_, ?_⟩, by omega⟩
  · refine Nat.le_of_lt_succ ?_
    refine Nat.div_lt_of_lt_mul ?_
    rw [Nat.mul_comm (y1 * 4294967296 + y0), Nat.mul_add, ← Nat.mul_assoc, Nat.succ_mul]
    generalize (u / y1).succ * y0 = b at *
    generalize u / y1 * y1 = a at *
    generalize u % y1 = c at *
    omega
  · have := Nat.div_lt_of_lt_mul (le1 u y1 y0 h1 h0 hu); exact Nat.le_of_lt_succ this
theorem quo_lt (u u1 y : Nat) (hu : u < y) (hu1 : u1 < 4294967296) : (u * 4294967296 + u1) / y < 4294967296 := by
  refine Nat.div_lt_of_lt_mul ?_
  omega
/-- It was too great: one less. -/
theorem Guess.less {u u1 y1 y0 q r : Nat} (g : Guess u u1 y1 y0 q r) (hu : u < y1 * 4294967296 + y0) (hu1 : u1 < 4294967296) (h : 4294967296 ≤ q ∨ 4294967296 * r + u1 < q * y0) :
    1 ≤ q ∧ Guess u u1 y1 y0 (q - 1) (r + y1) := by
  have hq := quo_lt u u1 _ hu hu1
  have hlt : (u * 4294967296 + u1) / (y1 * 4294967296 + y0) < q := by
    rcases h with h | h
    · omega
    · refine Nat.div_lt_of_lt_mul ?_
      rw [Nat.mul_comm (y1 * 4294967296 + y0)]
      exact above q r u u1 y1 y0 g.sum h
  have h1 : 1 ≤ q := Nat.lt_of_le_of_lt (Nat.zero_le _) hlt
  refine ⟨h1, ⟨?_, Nat.le_sub_one_of_lt hlt, by have := g.le; omega⟩⟩
  have e : (q - 1) * y1 + y1 = q * y1 := by rw [← Nat.succ_mul]; congr 1; omega
  have := g.sum
  omega
/-- It is the digit. -/
theorem Guess.done {u u1 y1 y0 q r : Nat} (g : Guess u u1 y1 y0 q r) (hy : 0 < y1 * 4294967296 + y0) (h : q * y0 ≤ 4294967296 * r + u1) : q = (u * 4294967296 + u1) / (y1 * 4294967296 + y0) :=
  Nat.le_antisymm ((Nat.le_div_iff_mul_le hy).2 (below q r u u1 y1 y0 g.sum h)) g.ge
theorem Guess.broke {u u1 y1 y0 q r : Nat} (g : Guess u u1 y1 y0 q r) (hy : 0 < y1 * 4294967296 + y0) (h0 : y0 < 4294967296) (hq : q ≤ 4294967296) (h : 4294967296 ≤ r) : q = (u * 4294967296 + u1) / (y1 * 4294967296 + y0) := by
  refine g.done hy ?_
  have : q * y0 ≤ 4294967296 * 4294967295 := Nat.mul_le_mul hq (by omega)
  omega
theorem or_sum (a b s : Nat) (h : b < 2 ^ s) : a * 2 ^ s ||| b = a * 2 ^ s + b := by
  rw [← Nat.shiftLeft_eq, ← Nat.shiftLeft_add_eq_or_of_lt h]
/-- Both digits together. -/
theorem both (u u1 u0 y : Nat) (hy : 0 < y) :
    (u * 4294967296 + u1) / y * 4294967296 + ((u * 4294967296 + u1) % y * 4294967296 + u0) / y = (u * 18446744073709551616 + (u1 * 4294967296 + u0)) / y := by
  have e : u * 18446744073709551616 + (u1 * 4294967296 + u0) = y * ((u * 4294967296 + u1) / y * 4294967296) + ((u * 4294967296 + u1) % y * 4294967296 + u0) := by
    have := Nat.div_add_mod (u * 4294967296 + u1) y
    rw [← Nat.mul_assoc]
    generalize y * ((u * 4294967296 + u1) / y) = a at *
    generalize (u * 4294967296 + u1) % y = b at *
    omega
  rw [e, Nat.mul_add_div hy]
theorem scaled_gen (hi lo y p q K : Nat) (e0 : q * p = K) (hp : 0 < p) :
    ((hi * p + lo / q) * K + lo * p % K) / (y * p) = (hi * K + lo) / y := by
  have e1 : lo * p / K = lo / q := by rw [← e0, Nat.mul_div_mul_right _ _ hp]
  have e2 := Nat.div_add_mod (lo * p) K
  rw [e1] at e2
  have e3 : (hi * p + lo / q) * K + lo * p % K = (hi * K + lo) * p := by
    have e4 : (hi * p + lo / q) * K = hi * K * p + K * (lo / q) := by rw [Nat.add_mul, Nat.mul_right_comm, Nat.mul_comm (lo / q)]
    rw [e4, Nat.add_assoc, e2, Nat.add_mul]
  rw [e3, Nat.mul_div_mul_right _ _ hp]
theorem quo_lt_gen (hi lo y K : Nat) (hh : hi < y) (hl : lo < K) : (hi * K + lo) / y < K := by
  refine Nat.div_lt_of_lt_mul ?_
  have h1 : (hi + 1) * K ≤ y * K := Nat.mul_le_mul_right _ hh
  rw [Nat.add_mul, Nat.one_mul] at h1
  exact Nat.lt_of_lt_of_le (Nat.add_lt_add_left hl _) h1
theorem scaled (hi lo y s : Nat) (hs : s ≤ 63) :
    ((hi * 2 ^ s + lo / 2 ^ (64 - s)) * 18446744073709551616 + lo * 2 ^ s % 18446744073709551616) / (y * 2 ^ s) = (hi * 18446744073709551616 + lo) / y :=
  scaled_gen hi lo y _ _ _ (by rw [← Nat.pow_add, show 64 - s + s = 64 by omega]) (Nat.two_pow_pos s)
theorem bitLenAux_bounds : ∀ (f x : Nat), x < 2 ^ f → x ≠ 0 → 1 ≤ Lib.bitLenAux f x ∧ 2 ^ (Lib.bitLenAux f x - 1) ≤ x ∧ x < 2 ^ (Lib.bitLenAux f x)
  | 0, x, h, h0 => by simp at h; exact absurd h h0
  | f + 1, x, h, h0 => by
    unfold Lib.bitLenAux
    rw [if_neg h0]
    by_cases hx : x / 2 = 0
    · have : x = 1 := by omega
      subst this
      rw [hx]
      have e : Lib.bitLenAux f 0 = 0 := by cases f <;> simp [Lib.bitLenAux]
      rw [e]; decide
    · have ih := bitLenAux_bounds f (x / 2) (by rw [Nat.pow_succ] at h; omega) hx
      obtain ⟨h1, h2, h3⟩ := ih
      generalize Lib.bitLenAux f (x / 2) = n at *
      obtain ⟨m, rfl⟩ : ∃ m, n = m + 1 := ⟨n - 1, by omega⟩
      refine ⟨by omega, ?_, ?_⟩
      · rw [show 1 + (m + 1) - 1 = m + 1 by omega, Nat.pow_succ]
        rw [show m + 1 - 1 = m by omega] at h2
        omega
      · rw [show 1 + (m + 1) = (m + 1) + 1 by omega, Nat.pow_succ]
        omega
/-- A number that isn't nought, shifted up to the highest bit. -/
theorem norm (y : Nat) (h : y < 18446744073709551616) (h0 : y ≠ 0) : 1 ≤ Lib.bitLen y ∧ Lib.bitLen y ≤ 64 ∧ 9223372036854775808 ≤ y * 2 ^ (64 - Lib.bitLen y) ∧ y * 2 ^ (64 - Lib.bitLen y) < 18446744073709551616 := by
  obtain ⟨h1, h2, h3⟩ := bitLenAux_bounds 64 y h h0
  have h4 : Lib.bitLen y ≤ 64 := Lib.bitLen_le y 64 (by omega) h
  change 1 ≤ Lib.bitLen y at h1
  change 2 ^ (Lib.bitLen y - 1) ≤ y at h2
  change y < 2 ^ Lib.bitLen y at h3
  generalize Lib.bitLen y = n at *
  refine ⟨h1, h4, ?_, ?_⟩
  · have e : 2 ^ (n - 1) * 2 ^ (64 - n) = 9223372036854775808 := by rw [← Nat.pow_add, show n - 1 + (64 - n) = 63 by omega]
    rw [← e]; exact Nat.mul_le_mul_right _ h2
  · have e : 2 ^ n * 2 ^ (64 - n) = 18446744073709551616 := by rw [← Nat.pow_add, show n + (64 - n) = 64 by omega]
    rw [← e]; exact Nat.mul_lt_mul_of_pos_right h3 (Nat.two_pow_pos _)
end DivP
end Go.Proofs.Ytajeicabfcelaaa
