/-
  WHAT IS READ WOULD BE WRITTEN SO; WHAT IS WRITTEN IS READ AS IT WAS: the lists alone.
-/
import Derived.Test.YtlanplknendmaaaWireRead6
import Derived.Test.YtlanplknendmaaaWireSig
namespace Go.Proofs.Ytlanplknendmaaa
open Go.RowKit
set_option linter.unusedSimpArgs false
set_option linter.unusedVariables false

theorem pBig_snoc (m b k : Nat) (hb : b < 256) : pBig (m * 256 + b) (k + 1) = pBig m k ++ [UInt8.ofNat b] := by
  unfold pBig
  rw [List.range_succ, List.map_append]
  congr 1
  · apply List.map_congr_left
    intro i hi
    have hi : i < k := List.mem_range.1 hi
    rw [show k + 1 - 1 - i = (k - 1 - i) + 1 by omega, Nat.mul_add, Nat.pow_add, Nat.mul_comm (2 ^ (8 * (k - 1 - i))), ← Nat.div_div_eq_div_mul, show (m * 256 + b) / 2 ^ (8 * 1) = m by omega]
  · simp only [List.map_cons, List.map_nil, Nat.add_sub_cancel, Nat.sub_self, Nat.mul_zero, Nat.pow_zero, Nat.div_one]
    congr 1
    apply UInt8.toNat.inj
    simp only [UInt8.toNat_ofNat']
    omega
theorem pBig_pNum : ∀ (k : Nat) (l : List UInt8), l.length = k → pBig (pNum l) k = l
  | 0, l, h => by rw [List.eq_nil_of_length_eq_zero h]; rfl
  | k + 1, l, h => by
    obtain ⟨a, b, rfl⟩ : ∃ a b, l = a ++ [b] := ⟨l.dropLast, l.getLast (by intro h0; rw [h0] at h; cases h), (List.dropLast_concat_getLast _).symm⟩
    have ha : a.length = k := by simpa using h
    rw [pNum_snoc, pBig_snoc _ _ _ b.toNat_lt, pBig_pNum k a ha]; simp
theorem pNum_pBig : ∀ (k n : Nat), n < 256 ^ k → pNum (pBig n k) = n
  | 0, n, h => by
    have : n = 0 := by simpa using h
    subst this; rfl
  | k + 1, n, h => by
    have e : n = n / 256 * 256 + n % 256 := by omega
    have h2 : n / 256 < 256 ^ k := by rw [Nat.pow_succ] at h; omega
    rw [e, pBig_snoc _ _ _ (by omega), pNum_snoc, pNum_pBig k _ h2]
    simp only [UInt8.toNat_ofNat']
    omega

theorem Rd.take_ok (r : Rd) (n : Nat) (h : (r.take n).2.err = 0) : r.err = 0 ∧ r.rest = (r.take n).1 ++ (r.take n).2.rest ∧ (r.take n).1.length = n := by
  unfold Rd.take at *
  split at h
  · rename_i h0; exact absurd h h0
  · rename_i h0
    split at h
    · cases h
    · rename_i h1
      rw [if_neg h0, if_neg h1]
      exact ⟨by omega, (List.take_append_drop _ _).symm, by simp; omega⟩
theorem Rd.num_ok (r : Rd) (n : Nat) (h : (r.num n).2.err = 0) : r.err = 0 ∧ r.rest = pBig (r.num n).1 n ++ (r.num n).2.rest := by
  obtain ⟨h0, h1, h2⟩ := r.take_ok n h
  refine ⟨h0, ?_⟩
  show r.rest = pBig (pNum (r.take n).1) n ++ _
  rw [pBig_pNum n _ h2]; exact h1
theorem Rd.fail_bad (r : Rd) (e : Int) (he : e ≠ 0) : (r.fail e).err ≠ 0 := by
  unfold Rd.fail
  split
  · exact he
  · assumption
theorem Rd.len_ok (r : Rd) (most : Int) (h : (r.len most).2.err = 0) : r.err = 0 ∧ r.rest = pBig (r.len most).1 4 ++ (r.len most).2.rest := by
  unfold Rd.len at *
  split at h
  · exact absurd h (Rd.fail_bad _ _ (by decide))
  · rename_i hc
    simp only [if_neg hc]
    exact r.num_ok 4 h
theorem Rd.text_ok (r : Rd) (most : Int) (h : (r.text most).2.err = 0) : r.err = 0 ∧ r.rest = pText4 (r.text most).1 ++ (r.text most).2.rest := by
  obtain ⟨h0, h1, h2⟩ := Rd.take_ok _ _ h
  obtain ⟨h3, h4⟩ := r.len_ok most h0
  refine ⟨h3, ?_⟩
  rw [h4, h1, pText4, List.append_assoc]
  show _ = pBig ((r.len most).2.take (r.len most).1).1.length 4 ++ _
  rw [h2]; rfl
theorem Rd.digests_ok (r : Rd) (most : Int) (h : (r.digests most).2.err = 0) : r.err = 0 ∧ r.rest = pDigests (r.digests most).1 ++ (r.digests most).2.rest := by
  obtain ⟨h0, h1, h2⟩ := Rd.take_ok _ _ h
  obtain ⟨h3, h4⟩ := r.len_ok most h0
  refine ⟨h3, ?_⟩
  rw [h4, h1, pDigests, List.append_assoc]
  show _ = pBig (((r.len most).2.take (32 * (r.len most).1)).1.length / 32) 4 ++ _
  rw [h2, Nat.mul_div_cancel_left _ (by decide)]; rfl
theorem Rd.head_ok (r : Rd) (h : r.head.err = 0) : r.err = 0 ∧ (r.num 4).1 ≤ 2147483647 ∧ r.rest = pBig (r.num 4).1 4 ++ r.head.rest := by
  unfold Rd.head at *
  split at h
  · exact absurd h (Rd.fail_bad _ _ (by decide))
  · rename_i hc
    simp only [if_neg hc]
    have := r.num_ok 4 h
    exact ⟨this.1, by omega, this.2⟩
theorem Rd.sig_ok (r : Rd) (h : r.d3.2.err = 0) : r.err = 0 ∧ (r.num 4).1 ≤ 2147483647 ∧ r.rest = pSig ((r.num 4).1 : Int) r.d1.1 r.d2.1 r.d3.1 ++ r.d3.2.rest := by
  obtain ⟨a3, b3⟩ := r.d2.2.digests_ok 32 h
  obtain ⟨a2, b2⟩ := r.d1.2.digests_ok 32 a3
  obtain ⟨a1, b1⟩ := r.head.digests_ok 32 a2
  obtain ⟨a0, c0, b0⟩ := r.head_ok a1
  refine ⟨a0, c0, ?_⟩
  have b3' : r.d2.2.rest = pDigests r.d3.1 ++ r.d3.2.rest := b3
  have b2' : r.d1.2.rest = pDigests r.d2.1 ++ r.d2.2.rest := b2
  have b1' : r.head.rest = pDigests r.d1.1 ++ r.d1.2.rest := b1
  rw [b0, b1', b2', b3', pSig, show ((r.num 4).1 : Int) % 4294967296 = ((r.num 4).1 : Int) by omega, Int.toNat_natCast]
  simp only [List.append_assoc]
theorem Rd.end_ok (r : Rd) (h : r.end' = 0) : r.err = 0 ∧ r.rest = [] := by
  unfold Rd.end' at h
  split at h
  · rename_i h0; exact absurd h h0
  · rename_i h0
    split at h
    · cases h
    · rename_i h1; exact ⟨by omega, by simpa using h1⟩
end Go.Proofs.Ytlanplknendmaaa
