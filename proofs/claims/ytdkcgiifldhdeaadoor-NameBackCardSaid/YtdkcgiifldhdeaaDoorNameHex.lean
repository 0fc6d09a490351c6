/-
  WHAT THE DOCUMENT'S OWN hex OF LAYER 2 RETURNS: a number in base sixteen.
-/
import Derived.Test.YtdkcgiifldhdeaaDoorFormat16
import Derived.Test.YtdkcgiifldhdeaaDoorStrIdx
namespace Go.Proofs.YtdkcgiifldhdeaaDoor
open Go.RowKit
set_option linter.unusedSimpArgs false
set_option linter.unusedVariables false

theorem hexN_slice : ∀ n : Nat, n < 16 → (⟨#[48, 49, 50, 51, 52, 53, 54, 55, 56, 57, 97, 98, 99, 100, 101, 102]⟩ : ByteArray).extract n (n + 1) = str [hexd n] := by
  have h : ∀ n : Nat, n < 16 → ((⟨#[48, 49, 50, 51, 52, 53, 54, 55, 56, 57, 97, 98, 99, 100, 101, 102]⟩ : ByteArray).extract n (n + 1)).data = (str [hexd n]).data := by decide
  intro n hn
  exact ByteArray.ext (h n hn)
theorem hex_size : (⟨#[48, 49, 50, 51, 52, 53, 54, 55, 56, 57, 97, 98, 99, 100, 101, 102]⟩ : ByteArray).size = 16 := rfl
/-- What stands ahead of the last sign. -/
def hexPre (f m : Nat) : List UInt8 := if m < 16 then [] else hexN f (m / 16)
theorem hexN_succ (f n : Nat) : hexN (f + 1) n = if n < 16 then [hexd n] else hexN f (n / 16) ++ [hexd (n % 16)] := rfl
theorem pHex_pre (n : Nat) : pHex n = hexPre 7 n ++ [hexd (n % 16)] := by
  unfold pHex hexPre
  rw [hexN_succ]
  by_cases h : n < 16
  · rw [if_pos h, if_pos h, Nat.mod_eq_of_lt h]; rfl
  · rw [if_neg h, if_neg h]
theorem hexPre_step (f m : Nat) (h : m < 16 ^ (f + 2)) (h16 : ¬ m < 16) : ∃ f', m / 16 < 16 ^ (f' + 2) ∧ hexPre f m = hexPre f' (m / 16) ++ [hexd (m / 16 % 16)] := by
  cases f with
  | zero =>
    have h' : m < 256 := h
    refine ⟨0, by show m / 16 < 256; omega, ?_⟩
    have hs : m / 16 < 16 := by omega
    unfold hexPre
    rw [if_neg h16, if_pos hs]; rfl
  | succ f =>
    refine ⟨f, ?_, ?_⟩
    · rw [Nat.div_lt_iff_lt_mul (by omega)]
      rw [show 16 ^ (f + 2) * 16 = 16 ^ (f + 1 + 2) by rw [← Nat.pow_succ]]; exact h
    · conv => lhs; unfold hexPre
      rw [if_neg h16, hexN_succ]
      unfold hexPre
      by_cases hs : m / 16 < 16
      · rw [if_pos hs, if_pos hs, Nat.mod_eq_of_lt hs]; rfl
      · rw [if_neg hs, if_neg hs]
set_option maxHeartbeats 1000000 in
set_option maxRecDepth 100000 in
theorem rhex_calls (n : Nat) (hn : n < 4294967296) (w : World) :
    Calls Tryd.prog 42 #[.int .i64 (n : Int)] w fun e w' => e = .returned (.string (str (pHex n))) ∧ w' = w := by
  have hpl := pHex_length n
  have hpp := pHex_pre n
  generalize hP : pHex n = P at *
  have h1 := hexN_slice (n % 16) (by omega)
  obtain ⟨q, eq, fq⟩ : ∃ q : Nat, Hid (n % 16 = q) ∧ (n : Int) % 16 = (q : Int) := ⟨_, rfl, by omega⟩
  rw [unhide eq] at h1 hpp
  have bq : (q : Int) ≤ (q : Int) + 1 ∧ (0 : Int) ≤ q ∧ (q : Int) < 16 ∧ (q : Int) + 1 ≤ 16 := by have := unhide eq; omega
  have Hpp := hide hpp
  have hz := hex_size
  have Hpl := hide hpl
  clear hP hpp hpl
  go_enter Tryd.func42, Tryd.ntmps42
  go_wp2
  clear h1 bq fq
  go_loopw [0, 3] (fun i s wr => ∃ (f m : Nat) (t : List UInt8), i = .int .i64 (m : Int) ∧ s = .string (str t) ∧ m < 4294967296 ∧ Hid (m < 16 ^ (f + 2)) ∧ Hid (P = hexPre f m ++ t) ∧ wr = w) (fun i _ _ => (intOf i).toNat)
  case atStart => exact ⟨7, n, [hexd q], rfl, rfl, hn, by show n < 68719476736; omega, Hpp, rfl⟩
  case round =>
    obtain ⟨f, m, t, rfl, rfl, hm, hf, hX, rfl⟩ := hrel
    by_cases h16 : m < 16
    · have hd : decide ((15 : Int) < (m : Int)) = false := by simp; omega
      have hPt : P = t := by have := unhide hX; unfold hexPre at this; rw [if_pos h16] at this; exact this
      subst hPt
      clear hX Hpp
      go_wp2
      go_ret
      exact ⟨rfl, rfl⟩
    · have hd : decide ((15 : Int) < (m : Int)) = true := by simp; omega
      obtain ⟨f', hf', hst⟩ := hexPre_step f m (unhide hf) h16
      have hX2 := unhide hX
      rw [hst] at hX2
      have htl : t.length ≤ 9 := by
        have := congrArg List.length hX2
        rw [List.length_append] at this
        have := unhide Hpl
        omega
      have s1 := hexN_slice (m / 16 % 16) (by omega)
      obtain ⟨k, ek, fk⟩ : ∃ k : Nat, Hid (m / 16 = k) ∧ (m : Int) / 16 = (k : Int) := ⟨_, rfl, by omega⟩
      obtain ⟨p, ep, fp⟩ : ∃ p : Nat, Hid (k % 16 = p) ∧ (k : Int) % 16 = (p : Int) := ⟨_, rfl, by omega⟩
      rw [unhide ek] at s1 hX2 hf'
      rw [unhide ep] at s1 hX2
      have bp : (p : Int) ≤ (p : Int) + 1 ∧ (0 : Int) ≤ p ∧ (p : Int) < 16 ∧ (p : Int) + 1 ≤ 16 := by have := unhide ep; omega
      have hkm : k < m := by have := unhide ek; omega
      have a1 := append_str [hexd p] t
      have n1 : ¬ 9223372036854775807 < 1 + t.length := by omega
      have HX2 := hide hX2
      have HF := hide hf'
      clear hX2 hX hst hf hf' Hpp
      go_wp2
      go_roundw
      case rel => exact ⟨f', k, hexd p :: t, rfl, rfl, by omega, HF, by show P = _; rw [unhide HX2]; simp, trivial⟩
      case measure => simp [intOf]; omega
end Go.Proofs.YtdkcgiifldhdeaaDoor
