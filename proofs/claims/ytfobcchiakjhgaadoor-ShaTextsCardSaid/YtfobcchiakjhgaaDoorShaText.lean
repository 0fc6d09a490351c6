/-
  WHAT sha.Text RETURNS.
-/
import Derived.Test.YtfobcchiakjhgaaDoorShaSum
namespace Go.Proofs.YtfobcchiakjhgaaDoor
open Go.RowKit
set_option linter.unusedSimpArgs false
set_option linter.unusedVariables false

/-- The digits of base sixteen. -/
def hexList : List UInt8 := [48, 49, 50, 51, 52, 53, 54, 55, 56, 57, 97, 98, 99, 100, 101, 102]
def hexd (n : Nat) : UInt8 := hexList.getD n 0
def hex2 (x : UInt8) : List UInt8 := [hexd (x.toNat / 16), hexd (x.toNat % 16)]
/-- Bytes in base sixteen. -/
def pText (d : List UInt8) : List UInt8 := d.flatMap hex2

theorem hex_index (n : Nat) (h : n < 16) (w : World) : (Instr.index 9 (.string ⟨#[48, 49, 50, 51, 52, 53, 54, 55, 56, 57, 97, 98, 99, 100, 101, 102]⟩) (.int .u8 (n : Int))).run Tryd.prog w = .ok (.int .u8 ((hexd n).toNat : Int)) w := by
  rw [run_index_string w 9 _ .u8 n Tryd.underlying9, dif_pos ⟨by omega, by show (n : Int) < 16; omega⟩]
  have : ∀ n : Nat, n < 16 → ∀ h', ((⟨#[48, 49, 50, 51, 52, 53, 54, 55, 56, 57, 97, 98, 99, 100, 101, 102]⟩ : ByteArray)[n]'h').toNat = (hexd n).toNat := by decide
  simp only [Int.toNat_natCast]
  rw [this n h]

theorem index_digest (d : List UInt8) (hd : d.length = 32) (k : Nat) (hk : k < 32) (w : World) : (Instr.index 30 (.agg (bc d)) (.int .i64 (k : Int))).run Tryd.prog w = .ok (.int .u8 ((d.getD k 0).toNat : Int)) w :=
  run_index_row 30 5 32 _ k _ Tryd.underlying30 (by kernel_rfl) (by kernel_rfl) hk (bc_at d k (by omega)) w
theorem pText_length (d : List UInt8) : (pText d).length = 2 * d.length := by
  unfold pText
  induction d with
  | nil => rfl
  | cons x l ih => simp only [List.flatMap_cons, List.length_append, ih, hex2, List.length_cons, List.length_nil]; omega
theorem low4 (x : UInt8) : bits BinOp.and IntKind.u8 (x.toNat : Int) 15 = ((x.toNat % 16 : Nat) : Int) := by
  rw [show (15 : Int) = ((15 : Nat) : Int) from rfl, u8_and_nat _ _ (by have := x.toNat_lt; omega) (by decide), nat_mask4]

set_option maxHeartbeats 1000000 in
set_option maxRecDepth 100000 in
theorem text_calls (d : List UInt8) (hd : d.length = 32) (w : World) :
    Calls Tryd.prog 19 #[.agg (bc d)] w fun e w' => e = .returned (.string (str (pText d))) ∧ Below w.heap.size w w' := by
  have hi : (Tryd.prog.info? 30).map (·.size) = some (bc d).size := by rw [bc_size, hd]; kernel_rfl
  have hq := fun o => (al2 w (.cells (bc d) 30) o).1
  have Hd := hide hd
  clear hd
  go_enter Tryd.func19, Tryd.ntmps19
  go_wp2_with (refine wpList_load_row rfl 30 (.tmp 1) rfl w.heap.size rfl 30 _ (0, 0) _ (hq _) Tryd.underlying30 rfl hi ?_)
  clear hq hi
  go_loopw [7] (fun i wr => ∃ k : Nat, k ≤ 32 ∧ i = .int .i64 k ∧ Lib.IsBuilderF 70 5 (w.heap.size + 1) (w.heap.size + 1) (Lib.byteCells (pText (d.take k))) wr ∧ Below w.heap.size w wr ∧ w.heap.size + 1 ≤ wr.heap.size) (fun i _ => 32 - (intOf i).toNat)
  case atStart =>
    refine ⟨0, by omega, rfl, ?_, bel2 _ _ _, by simp⟩
    have := Lib.IsBuilderF.of (Lib.fresh_isBuilder 70 5 (w.alloc (.cells (bc d) 30)))
    rw [World.size_alloc] at this
    exact this
  case round =>
    obtain ⟨k, hk, rfl, hI, hb, hz⟩ := hrel
    have hlen := pText_length (d.take k)
    have hlk : (d.take k).length ≤ 32 := by rw [List.length_take]; omega
    by_cases hlt : k < 32
    · have hidx := index_digest d (unhide Hd) k hlt
      have hsn : pText (d.take (k + 1)) = pText (d.take k) ++ hex2 (d.getD k 0) := by
        rw [take_snoc' d k 0 (by rw [unhide Hd]; omega)]; simp [pText]
      generalize hx : d.getD k 0 = x at hidx hsn
      have hx8 := x.toNat_lt
      have h1 := hex_index (x.toNat / 16) (by omega)
      have h2 := hex_index (x.toNat % 16) (by omega)
      have e1 : ((x.toNat / 16 : Nat) : Int) = (x.toNat : Int) / 16 := by omega
      rw [e1] at h1
      have e3 : ((x.toNat % 16 : Nat) : Int) = (x.toNat : Int) % 16 := by omega
      rw [e3] at h2
      have e2 := low4 x
      rw [e3] at e2
      have hdk : decide ((k : Int) < 32) = true := by simp; omega
      have Hsn := hide hsn
      have Hlen := hide hlen
      clear hsn hlen hx e1 e3
      go_wp2_with fail
      refine (writeByte_calls _ _ _ _ _ hI (by rw [Lib.byteCells_length, unhide Hlen]; omega) hz).mono ?_
      rintro e w1 ⟨rfl, hI1, hb1, ho1⟩
      have z1 := hb1.size
      go_wp2_with fail
      refine (writeByte_calls _ _ _ _ _ (.inr hI1) (by rw [List.length_append, Lib.byteCells_length, unhide Hlen]; simp; omega) (by omega)).mono ?_
      rintro e w2 ⟨rfl, hI2, hb2, ho2⟩
      have z2 := hb2.size
      go_wp2
      go_roundw
      case rel =>
        refine ⟨k + 1, by omega, by go_num, ?_, (hb.trans (hb1.mono (by omega))).trans (hb2.mono (by omega)), by omega⟩
        rw [unhide Hsn, Lib.byteCells_append]
        have := hI2
        rw [List.append_assoc] at this
        exact .inr this
      case measure => simp [intOf]; omega
    · have hdk : decide ((k : Int) < 32) = false := by simp; omega
      rw [List.take_of_length_le (by rw [unhide Hd]; omega)] at hI
      clear hlen hlk
      go_wp2_with fail
      refine (string_calls _ _ _ _ hI hz).mono ?_
      rintro e w1 ⟨rfl, hI1, hb1, ho1⟩
      go_wp2
      go_ret
      exact ⟨rfl, hb.trans (hb1.mono (by omega))⟩
end Go.Proofs.YtfobcchiakjhgaaDoor
