/-
  WHAT lamport's Bit RETURNS.
-/
import Derived.Test.YtkfhbdcoplemgaaDoorLamA
namespace Go.Proofs.YtkfhbdcoplemgaaDoor
open Go.RowKit
set_option linter.unusedSimpArgs false
set_option linter.unusedVariables false

def pBit (d : List UInt8) (i : Nat) : Nat := (d.getD (i / 8) 0).toNat / 2 ^ (7 - i % 8) % 2
theorem pBit_lt (d : List UInt8) (i : Nat) : pBit d i < 2 := Nat.mod_lt _ (by decide)
theorem and_one : ∀ v : Nat, v < 256 → bits .and .u8 (v : Int) 1 = ((v % 2 : Nat) : Int) := by decide +kernel
set_option maxHeartbeats 2000000 in
set_option maxRecDepth 100000 in
theorem bit_calls (d : List UInt8) (hd : d.length = 32) (i : Nat) (hi : i < 256) (w : World) :
    Calls Tryd.prog 26 #[.agg (bc d), .int .i64 (i : Int)] w fun e w' => e = .returned (.int .i64 ((pBit d i : Nat) : Int)) ∧ Below w.heap.size w w' := by
  have hq : i / 8 < 32 := by omega
  have hr : i % 8 < 8 := by omega
  have e1 : (i : Int).tdiv 8 = ((i / 8 : Nat) : Int) := by
    rw [Int.tdiv_eq_ediv_of_nonneg (by omega)]; rfl
  have e2 : (i : Int).tmod 8 = ((i % 8 : Nat) : Int) := by
    rw [Int.tmod_eq_emod_of_nonneg (by omega)]; rfl
  have g0 : decide ((i : Int) < 0) = false := by simp
  have g1 : decide ((256 : Int) ≤ (i : Int)) = false := by simp; omega
  have hc : (w.alloc (.cells (bc d) 24)).cell? ⟨w.heap.size, i / 8, none⟩ = some (.int .u8 ((d.getD (i / 8) 0).toNat : Int)) := by
    rw [cell_of_row _ _ _ _ _ _ (al1 w (.cells (bc d) 24)), bc_at _ _ (by omega)]
  unfold pBit
  have hv := (d.getD (i / 8) 0).toNat_lt
  generalize (d.getD (i / 8) 0).toNat = v at *
  generalize i / 8 = q at *
  generalize i % 8 = r at *
  obtain ⟨s, es⟩ : ∃ s : Nat, Hid (7 - r = s) := ⟨_, hide rfl⟩
  have e3 : (7 : Int) - (r : Int) = (s : Int) := by have := unhide es; omega
  rw [unhide es]
  have hs : s < 8 := by have := unhide es; omega
  have hvs : v / 2 ^ s < 256 := Nat.lt_of_le_of_lt (Nat.div_le_self _ _) (by omega)
  have ha := and_one (v / 2 ^ s) hvs
  have h5 : (v : Int) / 2 ^ s = ((v / 2 ^ s : Nat) : Int) := by simp
  rw [← h5] at ha
  have HA := hide ha
  have hv8 : v < 256 := by omega
  clear es hvs h5 ha hv
  go_enter Tryd.func26, Tryd.ntmps26
  go_wp2
  go_ret
  have hm : v / 2 ^ s % 2 < 2 := Nat.mod_lt _ (by decide)
  refine ⟨?_, (Below.refl _ _).alloc (Nat.le_refl _) _⟩
  rw [unhide HA]
  generalize v / 2 ^ s % 2 = m at *
  rw [show wrap64 (m : Int) = (m : Int) by unfold wrap64; omega]
  rfl
end Go.Proofs.YtkfhbdcoplemgaaDoor
