/-
  THE DOCUMENT's OWN Text OF A NUMBER (layer 8).
-/
import Derived.Test.YtfdnpmanepoblaaDoorAmtU
namespace Go.Proofs.YtfdnpmanepoblaaDoor
open Go Go.RowKit
set_option linter.unusedSimpArgs false
set_option linter.unusedVariables false

theorem pDec_one (u : Nat) (h : u < 10) : pDec u = [UInt8.ofNat (48 + u)] := Lib.decDigits_one h
theorem pDec_more (u : Nat) (h : ¬ u < 10) : pDec u = pDec (u / 10) ++ [UInt8.ofNat (48 + u % 10)] := by
  show Lib.decDigits u = _
  rw [Lib.decDigits, dif_neg h]; rfl
theorem pDec_pos (u : Nat) : 1 ≤ (pDec u).length := by
  by_cases h : u < 10
  · rw [pDec_one u h]; simp
  · rw [pDec_more u h]; simp
theorem pDec_len (u : Nat) (h : u < 18446744073709551616) : (pDec u).length ≤ 20 := by
  by_cases h1 : 1 ≤ u
  · show (Lib.decDigits u).length ≤ 20
    rw [Lib.decDigits_length]
    have := Lib.numDigits_eq u h1 h; split at this <;> omega
  · rw [pDec_one u (by omega)]; simp
theorem digit_conv (w : World) (x : Nat) (h : x < 256) : (convert 38 9 (.slice (some ⟨w.heap.size, 0, none⟩) 1 1)).run Tryd.prog (w.alloc (.cells #[.int .u8 (x : Int)] 5)) = .ok (.string (str [UInt8.ofNat x])) (w.alloc (.cells #[.int .u8 (x : Int)] 5)) := by
  have hc : (w.alloc (.cells #[.int .u8 (x : Int)] 5)).cell? ⟨w.heap.size, 0, none⟩ = some (.int .u8 (x : Int)) := by go_simp
  refine run_convert_bytes_back (P := Tryd.prog) _ 38 9 5 ⟨w.heap.size, 0, none⟩ 1 [UInt8.ofNat x] Tryd.underlying38 Tryd.underlying5 Tryd.underlying9 (fun j hj => ?_)
  have : j = 0 := by simp at hj; omega
  subst this
  have e : (x : Int) = ((UInt8.ofNat x).toNat : Int) := by rw [UInt8.toNat_ofNat']; omega
  rw [e] at hc ⊢
  exact hc
set_option maxHeartbeats 2000000 in
set_option maxRecDepth 100000 in
theorem rtext8_calls (u : Nat) (hu : u < 18446744073709551616) (w : World) :
    Calls Tryd.prog 8 #[.int .u64 (u : Int)] w fun e w' => e = .returned (.string (str (pDec u))) ∧ Below w.heap.size w w' := by
  have hlen := pDec_len u hu
  obtain ⟨D, hD⟩ : ∃ D, pDec u = D := ⟨_, rfl⟩
  rw [hD] at hlen
  rw [hD]
  have HD := hide hD
  have Hlen := hide hlen
  clear hD hlen
  go_enter Tryd.func8, Tryd.ntmps8
  go_wp2
  go_loopw [0, 3] (fun n s wr => ∃ (m : Nat) (acc : List UInt8), m < 18446744073709551616 ∧ n = .int .u64 (m : Int) ∧ s = .string (str acc) ∧ Hid (D = pDec m ++ acc) ∧ Below w.heap.size w wr) (fun n _ _ => (intOf n).toNat)
  case atStart => exact ⟨u, [], hu, rfl, rfl, hide (by rw [unhide HD, List.append_nil]), Below.refl _ _⟩
  case round =>
    obtain ⟨m, acc, hm, rfl, rfl, hA, hb⟩ := hrel
    have hdl := pDec_pos m
    have hal : acc.length ≤ 20 := by
      have h1 := congrArg List.length (unhide hA)
      rw [List.length_append] at h1
      have := unhide Hlen
      omega
    obtain ⟨q, hq⟩ : ∃ q, m % 10 = q := ⟨_, rfl⟩
    obtain ⟨t, ht⟩ : ∃ t, m / 10 = t := ⟨_, rfl⟩
    have eq1 : (m : Int) % 10 = (q : Int) := by omega
    have et1 : (m : Int) / 10 = (t : Int) := by omega
    have eqt : (m : Int).tmod 10 = (q : Int) := by rw [Int.tmod_eq_emod_of_nonneg (by omega)]; exact eq1
    have ett : (m : Int).tdiv 10 = (t : Int) := by rw [Int.tdiv_eq_ediv_of_nonneg (by omega)]; exact et1
    obtain ⟨x, hx⟩ : ∃ x, 48 + q = x := ⟨_, rfl⟩
    have ex : (48 : Int) + (q : Int) = (x : Int) := by omega
    have hx256 : x < 256 := by omega
    have w1 : IntKind.u64.wrap (x : Int) = (x : Int) := by rw [IntKind.wrap_u64]; omega
    have w2 : IntKind.u64.wrap (t : Int) = (t : Int) := by rw [IntKind.wrap_u64]; omega
    have w3 : (x : Int) % 256 = (x : Int) := by omega
    have hcv := digit_conv wr x hx256
    have ea := append_str [UInt8.ofNat x] acc
    have n1 : ¬ 9223372036854775807 < 1 + acc.length := by omega
    have hb2 : Below w.heap.size w (wr.alloc (.cells #[.int .u8 (x : Int)] 5)) := hb.alloc hb.size _
    have HB2 := hide hb2
    have htm : t < 18446744073709551616 := by omega
    have Hq := hide hq
    have Ht := hide ht
    have Hx := hide hx
    clear hq ht hx hb2 hdl hal
    by_cases h0 : t = 0
    · have hz : ((t : Int) == 0) = true := by simp [h0]
      have hres : Hid ([UInt8.ofNat x] ++ acc = D) := hide (by
        rw [unhide hA, pDec_one m (by have := unhide Ht; omega), ← unhide Hx, ← unhide Hq, show m % 10 = m by have := unhide Ht; omega])
      clear h0
      go_wp2_with (simp only [hcv])
      go_ret
      exact ⟨by rw [← unhide hres]; rfl, unhide HB2⟩
    · have hz : ((t : Int) == 0) = false := by simp; omega
      have hres : Hid (D = pDec t ++ ([UInt8.ofNat x] ++ acc)) := hide (by
        have ht := unhide Ht
        rw [unhide hA, pDec_more m (by omega), ← ht, ← unhide Hx, ← unhide Hq]; simp)
      have hlt : t < m := by have := unhide Ht; omega
      have Hlt := hide hlt
      clear h0 hlt
      go_wp2_with (simp only [hcv])
      go_roundw
      case rel => exact ⟨t, [UInt8.ofNat x] ++ acc, htm, rfl, rfl, hres, unhide HB2⟩
      case measure => have := unhide Hlt; simp [intOf]; omega
end Go.Proofs.YtfdnpmanepoblaaDoor
