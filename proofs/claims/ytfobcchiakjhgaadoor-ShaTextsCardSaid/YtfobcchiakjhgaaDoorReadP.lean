/-
  THE DIGEST THAT A TEXT IS, AS LISTS. Plain definitions and lemmas.
-/
import Derived.Test.YtfobcchiakjhgaaDoorShaText
import Derived.Lib.Bytealg
namespace Go.Proofs.YtfobcchiakjhgaaDoor
open Go.RowKit
set_option linter.unusedSimpArgs false
set_option linter.unusedVariables false

theorem i64_or16 : ∀ a b : Nat, a < 16 → b < 16 → bits BinOp.or IntKind.i64 ((a : Int) * 16) (b : Int) = ((16 * a + b : Nat) : Int) := by
  have h : ∀ a b : Fin 16, bits BinOp.or IntKind.i64 (((a : Nat) : Int) * 16) ((b : Nat) : Int) = ((16 * (a : Nat) + (b : Nat) : Nat) : Int) := by decide +kernel
  exact fun a b ha hb => h ⟨a, ha⟩ ⟨b, hb⟩
/-- A digit's value; 16 of what is none. -/
def hv (b : UInt8) : Nat := hexList.idxOf b
theorem all_bytes {p : UInt8 → Prop} (h : ∀ n : Fin 256, p (UInt8.ofNat n.val)) (b : UInt8) : p b := by
  have := h ⟨b.toNat, b.toNat_lt⟩
  simpa using this
theorem hv_le (b : UInt8) : hv b ≤ 16 := all_bytes (p := fun b => hv b ≤ 16) (by decide +kernel) b
theorem hv_index (b : UInt8) : Lib.indexByte hexList b = if hv b < 16 then (hv b : Int) else -1 := all_bytes (p := fun b => Lib.indexByte hexList b = if hv b < 16 then (hv b : Int) else -1) (by decide +kernel) b
/-- As the reference reckons it. -/
theorem hv_ref (b : UInt8) : hv b = if 48 ≤ b.toNat ∧ b.toNat ≤ 57 then b.toNat - 48 else if 97 ≤ b.toNat ∧ b.toNat ≤ 102 then b.toNat - 97 + 10 else 16 := all_bytes (p := fun b => hv b = if 48 ≤ b.toNat ∧ b.toNat ≤ 57 then b.toNat - 48 else if 97 ≤ b.toNat ∧ b.toNat ≤ 102 then b.toNat - 97 + 10 else 16) (by decide +kernel) b
theorem hv_hexd : ∀ n, n < 16 → hv (hexd n) = n := by decide +kernel
theorem hexd_hv (b : UInt8) (h : hv b < 16) : hexd (hv b) = b := all_bytes (p := fun b => hv b < 16 → hexd (hv b) = b) (by decide +kernel) b h

def rd (l : List UInt8) (q : Nat) : UInt8 := UInt8.ofNat (16 * hv (l.getD (2 * q) 0) + hv (l.getD (2 * q + 1) 0))
/-- What lies at place q when i digits have been read. -/
def pt (l : List UInt8) (i q : Nat) : UInt8 := if 2 * q + 1 < i then rd l q else if 2 * q < i then UInt8.ofNat (hv (l.getD (2 * q) 0)) else 0
def rowr (l : List UInt8) (i : Nat) : List UInt8 := (List.range 32).map (pt l i)
theorem rowr_length (l : List UInt8) (i : Nat) : (rowr l i).length = 32 := by simp [rowr]
theorem rowr_at (l : List UInt8) (i q : Nat) (h : q < 32) : (rowr l i).getD q 0 = pt l i q := by simp [rowr, h]
theorem rowr_zero (l : List UInt8) : rowr l 0 = List.replicate 32 0 := by
  unfold rowr
  rw [show pt l 0 = fun _ => (0 : UInt8) from by funext q; simp [pt]]
  rfl
theorem rowr_set (l : List UInt8) (i j k : Nat) (x : UInt8) (hk : k < 32) (hx : pt l j k = x) (ho : ∀ q, q ≠ k → pt l j q = pt l i q) : (bc (rowr l i)).setIfInBounds k (.int .u8 (x.toNat : Int)) = bc (rowr l j) := by
  apply Array.ext
  · simp [rowr_length]
  · intro q h1 h2
    have hq : q < 32 := by simpa [rowr_length] using h2
    rw [Array.getElem_setIfInBounds (by simpa [rowr_length] using hq)]
    by_cases e : k = q
    · subst e
      simp [bc, Lib.byteCells, rowr, hx]
    · rw [if_neg e]
      simp [bc, Lib.byteCells, rowr, ho q (fun h => e h.symm)]
def Good (l : List UInt8) (n : Nat) : Prop := ∀ j, j < n → hv (l.getD j 0) < 16
def good (l : List UInt8) : Bool := (List.range 64).all fun j => decide (hv (l.getD j 0) < 16)
theorem good_iff (l : List UInt8) : good l = true ↔ Good l 64 := by simp [good, Good]
def pRead (l : List UInt8) : List UInt8 × Bool := if l.length = 64 ∧ good l = true then (rowr l 64, true) else (List.replicate 32 0, false)
theorem pRead_length (l : List UInt8) : (pRead l).1.length = 32 := by
  unfold pRead; split
  · exact rowr_length _ _
  · simp
theorem pRead_ok (l : List UInt8) (h : l.length = 64) (hg : Good l 64) : pRead l = (rowr l 64, true) := by
  rw [pRead, if_pos ⟨h, (good_iff l).2 hg⟩]
theorem pRead_len (l : List UInt8) (h : l.length ≠ 64) : pRead l = (List.replicate 32 0, false) := by
  rw [pRead, if_neg (fun h' => h h'.1)]
theorem pRead_bad (l : List UInt8) (j : Nat) (hj : j < 64) (h : ¬ hv (l.getD j 0) < 16) : pRead l = (List.replicate 32 0, false) := by
  rw [pRead, if_neg (fun h' => h ((good_iff l).1 h'.2 j hj))]

/-- What is read is written so. -/
theorem flat2 (f : Nat → List UInt8) (hf : ∀ q, (f q).length = 2) (n j : Nat) (h : j < 2 * n) : ((List.range n).flatMap f).getD j 0 = (f (j / 2)).getD (j % 2) 0 ∧ ((List.range n).flatMap f).length = 2 * n := by
  induction n with
  | zero => omega
  | succ n ih =>
    have hl : ((List.range n).flatMap f).length = 2 * n := by
      clear ih h
      induction n with
      | zero => rfl
      | succ n ih => rw [List.range_succ, List.flatMap_append, List.length_append, ih]; simp [hf]; omega
    rw [List.range_succ, List.flatMap_append, List.length_append, hl]
    refine ⟨?_, by simp [hf]; omega⟩
    by_cases hj : j < 2 * n
    · rw [List.getD_eq_getElem?_getD, List.getElem?_append_left (by omega), ← List.getD_eq_getElem?_getD, (ih hj).1]
    · have hq : j / 2 = n := by omega
      rw [List.getD_eq_getElem?_getD, List.getElem?_append_right (by omega), hl, ← List.getD_eq_getElem?_getD, hq, show j % 2 = j - 2 * n by omega]
      simp
theorem text_read (l : List UInt8) (h : l.length = 64) (hg : Good l 64) : pText (rowr l 64) = l := by
  have e : pText (rowr l 64) = (List.range 32).flatMap fun q => hex2 (pt l 64 q) := by simp [pText, rowr, List.flatMap_map]
  have hlen : (pText (rowr l 64)).length = 64 := by rw [pText_length, rowr_length]
  apply List.ext_getElem?
  intro j
  by_cases hj : j < 64
  · have h2 := (flat2 (fun q => hex2 (pt l 64 q)) (fun q => rfl) 32 j (by omega)).1
    rw [← e] at h2
    have hq : pt l 64 (j / 2) = rd l (j / 2) := by rw [pt, if_pos (by omega)]
    have g1 := hg (2 * (j / 2)) (by omega)
    have g2 := hg (2 * (j / 2) + 1) (by omega)
    have hr : (rd l (j / 2)).toNat = 16 * hv (l.getD (2 * (j / 2)) 0) + hv (l.getD (2 * (j / 2) + 1) 0) := by
      rw [rd, UInt8.toNat_ofNat']; omega
    have hd : (hex2 (pt l 64 (j / 2))).getD (j % 2) 0 = l.getD j 0 := by
      rw [hq, hex2, hr]
      rcases Nat.mod_two_eq_zero_or_one j with hm | hm
      · rw [hm, show (16 * hv (l.getD (2 * (j / 2)) 0) + hv (l.getD (2 * (j / 2) + 1) 0)) / 16 = hv (l.getD (2 * (j / 2)) 0) by omega]
        show hexd _ = _
        rw [hexd_hv _ g1, show 2 * (j / 2) = j by omega]
      · rw [hm, show (16 * hv (l.getD (2 * (j / 2)) 0) + hv (l.getD (2 * (j / 2) + 1) 0)) % 16 = hv (l.getD (2 * (j / 2) + 1) 0) by omega]
        show hexd _ = _
        rw [hexd_hv _ g2, show 2 * (j / 2) + 1 = j by omega]
    rw [hd] at h2
    rw [List.getD_eq_getElem?_getD, List.getD_eq_getElem?_getD] at h2
    rw [List.getElem?_eq_getElem (by omega), List.getElem?_eq_getElem (by omega)] at h2 ⊢
    simpa using h2
  · rw [List.getElem?_eq_none (by omega), List.getElem?_eq_none (by omega)]
/-- What is written is read. -/
theorem read_text (d : List UInt8) (h : d.length = 32) : pRead (pText d) = (d, true) := by
  have hlen : (pText d).length = 64 := by rw [pText_length, h]
  have e : d = (List.range 32).map fun q => d.getD q 0 := by
    apply List.ext_getElem?
    intro j
    by_cases hj : j < 32
    · simp [hj, h]
    · rw [List.getElem?_eq_none (by omega), List.getElem?_eq_none (by simp; omega)]
  have e3 : pText ((List.range 32).map fun q => d.getD q 0) = (List.range 32).flatMap fun q => hex2 (d.getD q 0) := by simp [pText, List.flatMap_map]
  have e2 : pText d = (List.range 32).flatMap fun q => hex2 (d.getD q 0) := by rw [← e3, ← e]
  have hat : ∀ j, j < 64 → (pText d).getD j 0 = (hex2 (d.getD (j / 2) 0)).getD (j % 2) 0 := fun j hj => by
    rw [e2]; exact (flat2 (fun q => hex2 (d.getD q 0)) (fun q => rfl) 32 j (by omega)).1
  have h0 : ∀ q, q < 32 → hv ((pText d).getD (2 * q) 0) = (d.getD q 0).toNat / 16 := fun q hq => by
    rw [hat _ (by omega), show 2 * q / 2 = q by omega, show 2 * q % 2 = 0 by omega]
    have := (d.getD q 0).toNat_lt
    exact hv_hexd _ (by omega)
  have h1 : ∀ q, q < 32 → hv ((pText d).getD (2 * q + 1) 0) = (d.getD q 0).toNat % 16 := fun q hq => by
    rw [hat _ (by omega), show (2 * q + 1) / 2 = q by omega, show (2 * q + 1) % 2 = 1 by omega]
    exact hv_hexd _ (by omega)
  have hg : Good (pText d) 64 := fun j hj => by
    have := (d.getD (j / 2) 0).toNat_lt
    rcases Nat.mod_two_eq_zero_or_one j with hm | hm
    · have := h0 (j / 2) (by omega); rw [show 2 * (j / 2) = j by omega] at this; omega
    · have := h1 (j / 2) (by omega); rw [show 2 * (j / 2) + 1 = j by omega] at this; omega
  rw [pRead_ok _ hlen hg]
  congr 1
  conv => rhs; rw [e]
  unfold rowr
  apply List.map_congr_left
  intro q hq
  have hq' : q < 32 := List.mem_range.1 hq
  rw [pt, if_pos (by omega), rd, h0 q hq', h1 q hq', show 16 * ((d.getD q 0).toNat / 16) + (d.getD q 0).toNat % 16 = (d.getD q 0).toNat by omega]
  simp
end Go.Proofs.YtfobcchiakjhgaaDoor
