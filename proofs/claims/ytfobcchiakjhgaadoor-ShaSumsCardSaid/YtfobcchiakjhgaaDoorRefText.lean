/-
  WHAT THE REFERENCE'S Text RETURNS.
-/
import Derived.Test.YtfobcchiakjhgaaDoorShaText
import Derived.Test.YtfobcchiakjhgaaDoorRefConv
namespace Go.Proofs.YtfobcchiakjhgaaDoor
open Go.RowKit
set_option linter.unusedSimpArgs false
set_option linter.unusedVariables false

/-- One digit, cut out of the sixteen. -/
theorem hex_slice : ∀ n : Nat, n < 16 → (⟨#[48, 49, 50, 51, 52, 53, 54, 55, 56, 57, 97, 98, 99, 100, 101, 102]⟩ : ByteArray).extract n (n + 1) = str [hexd n] := by
  have h : ∀ n : Nat, n < 16 → ((⟨#[48, 49, 50, 51, 52, 53, 54, 55, 56, 57, 97, 98, 99, 100, 101, 102]⟩ : ByteArray).extract n (n + 1)).data = (str [hexd n]).data := by decide
  intro n hn
  exact ByteArray.ext (h n hn)

set_option maxHeartbeats 1000000 in
set_option maxRecDepth 100000 in
theorem rtext_calls (d : List UInt8) (hd : d.length = 32) (w : World) :
    Calls Tryd.prog 20 #[.agg (bc d)] w fun e w' => e = .returned (.string (str (pText d))) ∧ Below w.heap.size w w' := by
  have q0 := al1 w (.cells (bc d) 30)
  have hb0 := (Below.refl w.heap.size w).alloc (Nat.le_refl _) (.cells (bc d) 30)
  have Hd := hide hd
  have Q0 := hide q0
  have HB0 := hide hb0
  clear hd q0 hb0
  go_enter Tryd.func20, Tryd.ntmps20
  go_wp2
  go_loopw [3, 4] (fun s i wr => ∃ k : Nat, k ≤ 32 ∧ i = .int .i64 k ∧ s = .string (str (pText (d.take k))) ∧ wr.heap[w.heap.size]? = some (.cells (bc d) 30 (0, 0)) ∧ Below w.heap.size w wr) (fun _ i _ => 32 - (intOf i).toNat)
  case atStart => exact ⟨0, by omega, rfl, rfl, unhide Q0, unhide HB0⟩
  case round =>
    clear Q0 HB0
    obtain ⟨k, hk, rfl, rfl, q0, hb⟩ := hrel
    have hlen := pText_length (d.take k)
    have hlk : (d.take k).length ≤ 32 := by rw [List.length_take]; omega
    by_cases hlt : k < 32
    · have hsn : pText (d.take (k + 1)) = pText (d.take k) ++ hex2 (d.getD k 0) := by
        rw [take_snoc' d k 0 (by rw [unhide Hd]; omega)]; simp [pText]
      have c : wr.cell? ⟨w.heap.size, k, none⟩ = some (.int .u8 ((d.getD k 0).toNat : Int)) := by
        rw [cell_of_row _ _ _ _ _ _ q0]; exact bc_at _ _ (by rw [unhide Hd]; omega)
      generalize hx : d.getD k 0 = x at c hsn
      have hx8 := x.toNat_lt
      have h1 := hex_slice (x.toNat / 16) (by omega)
      have h2 := hex_slice (x.toNat % 16) (by omega)
      obtain ⟨hi, ehi, fhi⟩ : ∃ hi : Nat, Hid (x.toNat / 16 = hi) ∧ (x.toNat : Int) / 16 = (hi : Int) := ⟨_, rfl, by omega⟩
      obtain ⟨lo, elo, flo⟩ : ∃ lo : Nat, Hid (x.toNat % 16 = lo) ∧ (x.toNat : Int) % 16 = (lo : Int) := ⟨_, rfl, by omega⟩
      rw [unhide ehi] at h1
      rw [unhide elo] at h2
      have bh : (0 : Int) ≤ hi ∧ (hi : Int) < 16 ∧ (hi : Int) + 1 ≤ 16 := by have := unhide ehi; omega
      have bl : (0 : Int) ≤ lo ∧ (lo : Int) < 16 ∧ (lo : Int) + 1 ≤ 16 := by have := unhide elo; omega
      have bh2 : ((hi : Int) + 1) % 256 = (hi : Int) + 1 := by omega
      have bl2 : ((lo : Int) + 1) % 256 = (lo : Int) + 1 := by omega
      have bk : (0 : Int) ≤ k ∧ (k : Int) < 32 := by omega
      have hdk : decide ((k : Int) < 32) = true := by simp; omega
      generalize hpt : pText (d.take k) = pt at *
      have n1 : ¬ 9223372036854775807 < pt.length + 1 := by omega
      have n2 : ¬ 9223372036854775807 < pt.length + 1 + 1 := by omega
      have a1 := append_str pt [hexd hi]
      have a2 := append_str (pt ++ [hexd hi]) [hexd lo]
      have Hsn := hide hsn
      have Q0 := hide q0
      clear hsn hlen hx hpt q0
      go_wp2
      go_quiet (fail)
      go_wp2
      refine ⟨⟨k + 1, by omega, by go_num, ?_, unhide Q0, below_drewN hb _⟩, ?_⟩
      · rw [unhide Hsn, hex2, unhide ehi, unhide elo]
      · simp [intOf]; omega
    · have hdk : decide ((k : Int) < 32) = false := by simp; omega
      have e : pText (d.take k) = pText d := by rw [List.take_of_length_le (by rw [unhide Hd]; omega)]
      rw [e]
      clear e hlen hlk q0
      go_wp2
      go_ret
      exact ⟨rfl, hb⟩
end Go.Proofs.YtfobcchiakjhgaaDoor
