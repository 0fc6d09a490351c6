/-
  THE DOCUMENT's OWN Read OF A NUMBER (layer 8).
-/
import Derived.Test.YtfdnpmanepoblaaDoorAmtX
import Derived.Test.YtfdnpmanepoblaaDoorStrIdx
import Derived.Test.YtfdnpmanepoblaaDoorCellsB
namespace Go.Proofs.YtfdnpmanepoblaaDoor
open Go Go.RowKit
set_option linter.unusedSimpArgs false
set_option linter.unusedVariables false

theorem no_num_nil : pRead8 [] = (0, false) := pRead8_no [] fun ⟨u, h⟩ => by
  have := pDec_pos u
  rw [h.2] at this
  simp at this
theorem no_num_long (l : List UInt8) (hl : 20 < l.length) : pRead8 l = (0, false) := pRead8_no l fun ⟨u, h⟩ => by
  have := pDec_len u h.1
  rw [h.2] at this
  omega
theorem no_num_bad (l : List UInt8) (b : UInt8) (hb : b ∈ l) (hd : ¬ isDig b) : pRead8 l = (0, false) := pRead8_no l fun ⟨u, h⟩ => by
  have := pDec_dig u b (by rw [h.2]; exact hb)
  exact hd this
theorem no_num_other (l : List UInt8) (n : Nat) (hn : numFrom 0 l % 18446744073709551616 = n) (hd : ¬ pDec n = l) : pRead8 l = (0, false) := pRead8_no l fun ⟨u, h⟩ => by
  have h1 : numFrom 0 l = u := by rw [← h.2]; exact pDec_num u
  have h2 := h.1
  rw [h1, Nat.mod_eq_of_lt h2] at hn
  exact hd (by rw [← hn]; exact h.2)
set_option maxHeartbeats 4000000 in
set_option maxRecDepth 100000 in
theorem rread8_calls (l : List UInt8) (hl : l.length ≤ 1000000) (w : World) :
    Calls Tryd.prog 6 #[.string (str l)] w fun e w' => e = .returned (.tuple #[.int .u64 ((pRead8 l).1 : Int), .bool (pRead8 l).2]) ∧ Below w.heap.size w w' := by
  by_cases h0 : l.length = 0
  · have hn : l = [] := List.length_eq_zero_iff.1 h0
    subst hn
    rw [no_num_nil]
    go_enter Tryd.func6, Tryd.ntmps6
    go_wp2
    go_ret2
    exact ⟨rfl, Below.refl _ _⟩
  · have hz : ((l.length : Int) == 0) = false := by
      rw [beq_eq_false_iff_ne]; intro h; exact h0 (by omega)
    by_cases h20 : 20 < l.length
    · rw [no_num_long l h20]
      have hg : decide ((20 : Int) < (l.length : Int)) = true := by simp; omega
      clear h0 h20
      go_enter Tryd.func6, Tryd.ntmps6
      go_wp2
      go_ret2
      exact ⟨rfl, Below.refl _ _⟩
    · have hg : decide ((20 : Int) < (l.length : Int)) = false := by simp; omega
      obtain ⟨R, hR⟩ : ∃ R, pRead8 l = R := ⟨_, rfl⟩
      rw [hR]
      have HR := hide hR
      clear hR h0 h20
      go_enter Tryd.func6, Tryd.ntmps6
      go_wp2
      go_loopw [4, 5] (fun n i wr => ∃ k : Nat, k ≤ l.length ∧ i = .int .i64 (k : Int) ∧ n = .int .u64 ((numFrom 0 (l.take k) % 18446744073709551616 : Nat) : Int) ∧ wr = w) (fun _ i _ => l.length - (intOf i).toNat)
      case atStart => exact ⟨0, by omega, rfl, rfl, rfl⟩
      case round =>
        obtain ⟨k, hk, rfl, rfl, rfl⟩ := hrel
        by_cases hlt : k < l.length
        · have hd : decide ((k : Int) < (l.length : Int)) = true := by simp; omega
          have hd' : decide (k < l.length) = true := by simpa using hlt
          have c := str_index l k hlt
          have hsn := take_snoc' l k 0 hlt
          have hmem : l.getD k 0 ∈ l := by rw [List.getD_eq_getElem?_getD, List.getElem?_eq_getElem hlt]; exact List.getElem_mem _
          obtain ⟨b, hb⟩ : ∃ b, l.getD k 0 = b := ⟨_, rfl⟩
          rw [hb] at c hsn hmem
          have b1 : (k : Int) < (l.length : Int) := by omega
          by_cases hdg : isDig b
          · unfold isDig at hdg
            have l1 : decide ((b.toNat : Int) < 48) = false := by simp; omega
            have l2 : decide ((57 : Int) < (b.toNat : Int)) = false := by simp; omega
            obtain ⟨n, hn⟩ : ∃ n, numFrom 0 (l.take k) % 18446744073709551616 = n := ⟨_, rfl⟩
            obtain ⟨d, hdd⟩ : ∃ d, b.toNat - 48 = d := ⟨_, rfl⟩
            obtain ⟨m1, hm1⟩ : ∃ m, n * 10 % 18446744073709551616 = m := ⟨_, rfl⟩
            obtain ⟨m2, hm2⟩ : ∃ m, (m1 + d) % 18446744073709551616 = m := ⟨_, rfl⟩
            have f1 : IntKind.u64.wrap ((n : Int) * 10) = (m1 : Int) := by rw [IntKind.wrap_u64]; omega
            have f2 : ((b.toNat : Int) - 48) % 256 = (d : Int) := by omega
            have f2' : (b.toNat : Int) - 48 = (d : Int) := by omega
            have f2'' : (d : Int) % 256 = (d : Int) := by omega
            have f3 : IntKind.u64.wrap (d : Int) = (d : Int) := by rw [IntKind.wrap_u64]; omega
            have f4 : IntKind.u64.wrap ((m1 : Int) + (d : Int)) = (m2 : Int) := by rw [IntKind.wrap_u64]; omega
            have hnew : Hid (numFrom 0 (l.take (k + 1)) % 18446744073709551616 = m2) := hide (by
              rw [hsn, numFrom_append]
              show (numFrom 0 (l.take k) * 10 + (b.toNat - 48)) % 18446744073709551616 = m2
              rw [hdd, ← hm2, ← hm1, ← hn]
              omega)
            rw [hn]
            have Hlt := hide hlt
            clear hn hm1 hm2 hdd hmem hsn hlt hb hdg
            go_wp2
            go_roundw
            case rel => exact ⟨k + 1, by have := unhide Hlt; omega, by go_num, by rw [unhide hnew], trivial⟩
            case measure => have := unhide Hlt; simp [intOf]; omega
          · have hr := no_num_bad l b hmem hdg
            have e0 := (unhide HR).symm.trans hr
            subst e0
            unfold isDig at hdg
            clear hsn hmem hb hr
            by_cases h48 : b.toNat < 48
            · have l1 : decide ((b.toNat : Int) < 48) = true := by simp; omega
              clear hdg
              go_wp2
              go_ret2
              exact ⟨rfl, Below.refl _ _⟩
            · have l1 : decide ((b.toNat : Int) < 48) = false := by simp; omega
              have l2 : decide ((57 : Int) < (b.toNat : Int)) = true := by simp; omega
              clear hdg h48
              go_wp2
              go_ret2
              exact ⟨rfl, Below.refl _ _⟩
        · have hd : decide ((k : Int) < (l.length : Int)) = false := by simp; omega
          have hd' : decide (k < l.length) = false := by simpa using hlt
          have hkl : k = l.length := by omega
          rw [hkl, List.take_length]
          obtain ⟨n, hn⟩ : ∃ n, numFrom 0 l % 18446744073709551616 = n := ⟨_, rfl⟩
          have hn64 : n < 18446744073709551616 := by omega
          rw [hn]
          have ht := fun W => rtext8_calls n hn64 W
          have hcmp : ((str (pDec n)).toList == (str l).toList) = decide (pDec n = l) := by
            rw [ByteArray.toList_eq, ByteArray.toList_eq, str_toList, str_toList, Bool.eq_iff_iff]; simp
          by_cases he : pDec n = l
          · have e0 := (unhide HR).symm.trans (pRead8_yes l n ⟨hn64, he⟩)
            subst e0
            have hne : ((str (pDec n)).toList == (str l).toList) = true := by rw [hcmp]; simp [he]
            have HT := hide ht
            generalize pDec n = D at *
            clear ht hcmp he hn hkl hlt
            go_wp2_with fail
            refine (unhide HT _).mono ?_
            rintro e w2 ⟨rfl, b2⟩
            go_wp2
            go_ret2
            exact ⟨rfl, b2⟩
          · have e0 := (unhide HR).symm.trans (no_num_other l n hn he)
            subst e0
            have hne : ((str (pDec n)).toList == (str l).toList) = false := by rw [hcmp]; simp [he]
            have HT := hide ht
            generalize pDec n = D at *
            clear ht hcmp he hn hkl hlt
            go_wp2_with fail
            refine (unhide HT _).mono ?_
            rintro e w2 ⟨rfl, b2⟩
            go_wp2
            go_ret2
            exact ⟨rfl, b2⟩
end Go.Proofs.YtfdnpmanepoblaaDoor
