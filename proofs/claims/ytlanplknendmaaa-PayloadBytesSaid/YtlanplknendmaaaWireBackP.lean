/-
  WHAT IS WRITTEN IS READ AS IT WAS: the lists alone.
-/
import Derived.Test.YtlanplknendmaaaWireP
namespace Go.Proofs.Ytlanplknendmaaa
open Go.RowKit
set_option linter.unusedSimpArgs false
set_option linter.unusedVariables false

theorem take_back (a t : List UInt8) (n : Nat) (h : a.length = n) : (⟨a ++ t, 0⟩ : Rd).take n = (a, ⟨t, 0⟩) := by
  subst h
  simp [Rd.take]
theorem num_back (n k : Nat) (h : n < 256 ^ k) (t : List UInt8) : (⟨pBig n k ++ t, 0⟩ : Rd).num k = (n, ⟨t, 0⟩) := by
  simp only [Rd.num, take_back _ t k (pBig_length n k), pNum_pBig k n h]
theorem len_back (n : Nat) (h : n < 4294967296) (most : Int) (hm : (n : Int) ≤ most) (t : List UInt8) : (⟨pBig n 4 ++ t, 0⟩ : Rd).len most = (n, ⟨t, 0⟩) := by
  simp only [Rd.len, num_back n 4 h t]
  rw [if_neg (by omega)]
theorem text_back (s t : List UInt8) (h : s.length < 4294967296) : (⟨pText4 s ++ t, 0⟩ : Rd).text (s.length : Int) = (s, ⟨t, 0⟩) := by
  simp only [Rd.text, pText4, List.append_assoc, len_back s.length h (s.length : Int) (Int.le_refl _), take_back s t s.length rfl]
theorem digests_back (l t : List UInt8) (k : Nat) (h : l.length = 32 * k) (hk : k ≤ 32) : (⟨pDigests l ++ t, 0⟩ : Rd).digests 32 = (l, ⟨t, 0⟩) := by
  have e : l.length / 32 = k := by omega
  simp only [Rd.digests, pDigests, List.append_assoc, e, len_back k (by omega) 32 (by omega), take_back l t (32 * k) h]
theorem sig_back (i : Nat) (hi : i ≤ 2147483647) (l1 l2 l3 t : List UInt8) (k1 k2 k3 : Nat) (h1 : l1.length = 32 * k1) (h2 : l2.length = 32 * k2) (h3 : l3.length = 32 * k3) (m1 : k1 ≤ 32) (m2 : k2 ≤ 32) (m3 : k3 ≤ 32) :
    ((⟨pSig (i : Int) l1 l2 l3 ++ t, 0⟩ : Rd).num 4).1 = i ∧ (⟨pSig (i : Int) l1 l2 l3 ++ t, 0⟩ : Rd).d1.1 = l1 ∧ (⟨pSig (i : Int) l1 l2 l3 ++ t, 0⟩ : Rd).d2.1 = l2 ∧ (⟨pSig (i : Int) l1 l2 l3 ++ t, 0⟩ : Rd).d3 = (l3, ⟨t, 0⟩) := by
  have e : ((i : Int) % 4294967296).toNat = i := by omega
  have h0 : (⟨pSig (i : Int) l1 l2 l3 ++ t, 0⟩ : Rd).num 4 = (i, ⟨pDigests l1 ++ (pDigests l2 ++ (pDigests l3 ++ t)), 0⟩) := by
    rw [pSig, e]; simp only [List.append_assoc]; exact num_back i 4 (by show i < 4294967296; omega) _
  have hh : (⟨pSig (i : Int) l1 l2 l3 ++ t, 0⟩ : Rd).head = ⟨pDigests l1 ++ (pDigests l2 ++ (pDigests l3 ++ t)), 0⟩ := by
    unfold Rd.head; rw [h0, if_neg (by show ¬ 2147483647 < i; omega)]
  have hd1 : (⟨pSig (i : Int) l1 l2 l3 ++ t, 0⟩ : Rd).d1 = (l1, ⟨pDigests l2 ++ (pDigests l3 ++ t), 0⟩) := by
    unfold Rd.d1; rw [hh, digests_back l1 _ k1 h1 m1]
  have hd2 : (⟨pSig (i : Int) l1 l2 l3 ++ t, 0⟩ : Rd).d2 = (l2, ⟨pDigests l3 ++ t, 0⟩) := by
    unfold Rd.d2; rw [hd1, digests_back l2 _ k2 h2 m2]
  have hd3 : (⟨pSig (i : Int) l1 l2 l3 ++ t, 0⟩ : Rd).d3 = (l3, ⟨t, 0⟩) := by
    unfold Rd.d3; rw [hd2, digests_back l3 _ k3 h3 m3]
  exact ⟨by rw [h0], by rw [hd1], by rw [hd2], hd3⟩
end Go.Proofs.Ytlanplknendmaaa
