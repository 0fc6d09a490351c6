/-
  WHAT strconv.FormatUint RETURNS IN BASE SIXTEEN.
-/
import Derived.Test.YtdkcgiifldhdeaaDoorStrIdx
import Derived.Test.YtdkcgiifldhdeaaDoorProg
import Derived.WalkKit
namespace Go.Proofs.YtdkcgiifldhdeaaDoor
open Go.RowKit
set_option linter.unusedSimpArgs false
set_option linter.unusedVariables false

/-- The one place of the table that base sixteen asks. -/
def Tab16 (w : World) : Prop := w.cell? ⟨7, 15, none⟩ = some (.int .u8 4)
theorem tz64_calls (w : World) (h : Tab16 w) : Calls Tryd.prog 79 #[.int .u64 16] w fun e w' => e = .returned (.int .i64 4) ∧ w' = w := by
  unfold Tab16 at h
  have n0 : IntKind.u64.wrap (-16) = 18446744073709551600 := by decide +kernel
  have n1 : bits BinOp.and IntKind.u64 16 18446744073709551600 = 16 := by decide +kernel
  have n2 : IntKind.u64.wrap (16 * 285870213051353865) = 4573923408821661840 := by decide +kernel
  go_enter Tryd.func79, Tryd.ntmps79
  go_wp2
  go_ret
  exact ⟨rfl, rfl⟩
theorem tz_calls (w : World) (h : Tab16 w) : Calls Tryd.prog 70 #[.int .u64 16] w fun e w' => e = .returned (.int .i64 4) ∧ w' = w := by
  have H := hide h
  clear h
  go_enter Tryd.func70, Tryd.ntmps70
  go_wp2_with (go_at_call 79; refine (tz64_calls _ (unhide H)).mono ?_; rintro e w' ⟨rfl, rfl⟩)
  go_ret
  exact ⟨rfl, rfl⟩
theorem pow2_calls (w : World) : Calls Tryd.prog 69 #[.int .i64 16] w fun e w' => e = .returned (.bool true) ∧ w' = w := by
  go_enter Tryd.func69, Tryd.ntmps69
  go_wp2
  go_ret
  exact ⟨rfl, rfl⟩

/-- A number in base sixteen. -/
def hexN : Nat → Nat → List UInt8
  | 0, n => [hexd (n % 16)]
  | f + 1, n => if n < 16 then [hexd n] else hexN f (n / 16) ++ [hexd (n % 16)]
def pHex (n : Nat) : List UInt8 := hexN 8 n
def abcZ : ByteArray := ⟨#[48, 49, 50, 51, 52, 53, 54, 55, 56, 57, 97, 98, 99, 100, 101, 102, 103, 104, 105, 106, 107, 108, 109, 110, 111, 112, 113, 114, 115, 116, 117, 118, 119, 120, 121, 122]⟩
theorem z_index (n : Nat) (h : n < 16) (w : World) : (Instr.index 9 (.string ⟨#[48, 49, 50, 51, 52, 53, 54, 55, 56, 57, 97, 98, 99, 100, 101, 102, 103, 104, 105, 106, 107, 108, 109, 110, 111, 112, 113, 114, 115, 116, 117, 118, 119, 120, 121, 122]⟩) (.int .u64 (n : Int))).run Tryd.prog w = .ok (.int .u8 ((hexd n).toNat : Int)) w := by
  rw [run_index_string w 9 _ .u64 n Tryd.underlying9, dif_pos ⟨by omega, by show (n : Int) < 36; omega⟩]
  have : ∀ n : Nat, n < 16 → ∀ h', ((⟨#[48, 49, 50, 51, 52, 53, 54, 55, 56, 57, 97, 98, 99, 100, 101, 102, 103, 104, 105, 106, 107, 108, 109, 110, 111, 112, 113, 114, 115, 116, 117, 118, 119, 120, 121, 122]⟩ : ByteArray)[n]'h').toNat = (hexd n).toNat := by decide
  simp only [Int.toNat_natCast]
  rw [this n h]

set_option maxHeartbeats 2000000 in
set_option maxRecDepth 100000 in
theorem formatBits_calls (n : Nat) (hn : n < 4294967296) (w : World) (h : Tab16 w) :
    Calls Tryd.prog 62 #[.slice none 0 0, .int .u64 (n : Int), .int .i64 16, .bool false, .bool false] w fun e w' => e = .returned (.tuple #[.slice none 0 0, .string (str (pHex n))]) ∧ Below w.heap.size w w' := by
  have H := hide h
  have q0 := al1 w (.cells (bc (List.replicate 65 0)) 84)
  have hb0 := (Below.refl w.heap.size w).alloc (Nat.le_refl _) (.cells (bc (List.replicate 65 0)) 84)
  have Q0 := hide q0
  have HB0 := hide hb0
  have ht : Tab16 (w.alloc (.cells (bc (List.replicate 65 0)) 84)) := by
    unfold Tab16 at *
    rw [hb0.cell (p := ⟨7, 15, none⟩) (block_lt_of_cell h)]; exact h
  have HT := hide ht
  clear h q0 hb0 ht
  go_enter Tryd.func62, Tryd.ntmps62
  go_wp2_with (first
    | (go_at_call 69; refine (pow2_calls _).mono ?_; rintro e w' ⟨rfl, rfl⟩)
    | (go_at_call 70; refine (tz_calls _ (unhide HT)).mono ?_; rintro e w' ⟨rfl, rfl⟩))
  clear HT H
  go_loopw [1, 13] (fun a b wr => ∃ (u i f : Nat) (tail : List UInt8), a = .int .u64 (u : Int) ∧ b = .int .i64 (i : Int) ∧ Hid (i + tail.length = 65) ∧ 57 ≤ i ∧ i ≤ 65 ∧ 1 ≤ f ∧ Hid (f + tail.length = 8) ∧ Hid (u < 16 ^ f) ∧ u < 4294967296 ∧ Hid (pHex n = hexN f u ++ tail) ∧ wr.heap[w.heap.size]? = some (.cells (bc (List.replicate i 0 ++ tail)) 84 (0, 0)) ∧ Below w.heap.size w wr) (fun a _ _ => (intOf a).toNat)
  case atStart => exact ⟨n, 65, 8, [], rfl, rfl, rfl, by omega, by omega, by omega, rfl, hide (by show n < 16 ^ 8; omega), hn, hide (by show pHex n = hexN 8 n ++ []; rw [List.append_nil]; rfl), unhide Q0, unhide HB0⟩
  case round =>
    clear Q0 HB0
    obtain ⟨u, i, f, tail, rfl, rfl, hi, hi1, hi2, hf, hft, hu, hu32, hx, q, hb⟩ := hrel
    obtain ⟨m, Hm, em⟩ : ∃ m : Nat, Hid (i = m + 1) ∧ (i : Int) - 1 = (m : Int) := ⟨i - 1, hide (by omega), by omega⟩
    have hmi := unhide Hm
    have cm : wr.cell? ⟨w.heap.size, m, none⟩ = some (.int .u8 (((List.replicate i 0 ++ tail).getD m 0).toNat : Int)) := by
      rw [cell_of_row _ _ _ _ _ _ q]; exact bc_at _ _ (by simp; omega)
    generalize hv0 : (List.replicate i 0 ++ tail).getD m 0 = v0 at cm
    have fz : wr.frozen? ⟨w.heap.size, m, none⟩ = false := frozen_of_row _ _ _ _ _ q
    have hrow : ∀ x : UInt8, (wr.setCell ⟨w.heap.size, m, none⟩ (.int .u8 (x.toNat : Int))).heap[w.heap.size]? = some (.cells (bc (List.replicate m 0 ++ (x :: tail))) 84 (0, 0)) := fun x => by
      have e : List.replicate i (0 : UInt8) ++ tail = List.replicate m 0 ++ 0 :: tail := by rw [hmi, List.replicate_succ']; simp
      rw [heap_setCell_same _ _ _ _ _ _ q, e, bc_set _ _ _ _ _ (by simp)]; simp
    have bm : (0 : Int) ≤ m ∧ (m : Int) < 65 := by omega
    have wm := wi64 (m : Int) (by omega) (by omega)
    have Hrow := hide hrow
    clear hv0 hrow hmi q
    by_cases h16 : 16 ≤ u
    · have hd : decide ((16 : Int) ≤ (u : Int)) = true := by simp; omega
      have ha : bits BinOp.and IntKind.u64 (u : Int) 15 = ((u % 16 : Nat) : Int) := by
        rw [show (15 : Int) = ((15 : Nat) : Int) from rfl, u64_and_nat _ _ (by omega) (by decide), nat_mask4]
      obtain ⟨r, Hr, er⟩ : ∃ r : Nat, Hid (u % 16 = r) ∧ bits BinOp.and IntKind.u64 (u : Int) 15 = (r : Int) := ⟨_, rfl, ha⟩
      have hr16 : r < 16 := by have := unhide Hr; omega
      have hz := z_index r hr16
      obtain ⟨qq, Hq, eq⟩ : ∃ qq : Nat, Hid (u / 16 = qq) ∧ (u : Int) / 16 = (qq : Int) := ⟨_, rfl, by omega⟩
      obtain ⟨g, rfl⟩ : ∃ g, f = g + 1 := ⟨f - 1, by omega⟩
      clear ha
      go_wp2
      have hul := unhide hu
      have hg1 : 1 ≤ g := by
        cases g with
        | zero => simp at hul; omega
        | succ g => omega
      have hgt := unhide hft
      have hit := unhide hi
      refine ⟨⟨qq, m, g, hexd r :: tail, by rfl, by rfl, ?_, by have := unhide Hm; omega, by omega, hg1, ?_, ?_, ?_, ?_, unhide Hrow _, hb.setCell (Nat.le_refl _) _⟩, ?_⟩
      · show m + (hexd r :: tail).length = 65; have := unhide Hm; simp; omega
      · show g + (hexd r :: tail).length = 8; simp; omega
      · show qq < 16 ^ g
        have := unhide Hq
        rw [Nat.pow_succ] at hul; omega
      · have := unhide Hq; omega
      · show pHex n = _
        rw [unhide hx, hexN, if_neg (by omega), unhide Hq, unhide Hr]; simp
      · have := unhide Hq; simp [intOf]; omega
    · have hd : decide ((16 : Int) ≤ (u : Int)) = false := by simp; omega
      have hz := z_index u (by omega)
      obtain ⟨g, rfl⟩ : ∃ g, f = g + 1 := ⟨f - 1, by omega⟩
      have hfin : pHex n = hexd u :: tail := by rw [unhide hx, hexN, if_pos (by omega)]; rfl
      have Hfin := hide hfin
      clear hfin
      have bm2 : (m : Int) ≤ 65 := by omega
      have hln : (hexd u :: tail).length = 65 - m := by have := unhide hi; have := unhide Hm; simp; omega
      have hcv : (convert 40 9 (.slice (some ⟨w.heap.size, m, none⟩) (65 - m) (65 - m))).run Tryd.prog (wr.setCell ⟨w.heap.size, m, none⟩ (.int .u8 ((hexd u).toNat : Int))) = .ok (.string (str (hexd u :: tail))) (wr.setCell ⟨w.heap.size, m, none⟩ (.int .u8 ((hexd u).toNat : Int))) := by
        have := run_convert_bytes_back (P := Tryd.prog) (wr.setCell ⟨w.heap.size, m, none⟩ (.int .u8 ((hexd u).toNat : Int))) 40 9 5 ⟨w.heap.size, m, none⟩ (65 - m) (hexd u :: tail) Tryd.underlying40 Tryd.underlying5 Tryd.underlying9 (fun j hj => by
          rw [show (⟨w.heap.size, m, none⟩ : Addr).add j = ⟨w.heap.size, m + j, none⟩ by unfold Addr.add; split <;> simp_all, cell_of_row _ _ _ _ _ _ (unhide Hrow (hexd u)), bc_at _ _ (by simp at hj ⊢; omega)]
          rw [List.getD_eq_getElem?_getD, List.getElem?_append_right (by simp)]
          simp only [List.length_replicate, Nat.add_sub_cancel_left]
          rw [List.getElem?_eq_getElem hj]; rfl)
        rw [hln] at this
        rw [this]; rfl
      clear hln
      go_wp2
      go_ret2
      exact ⟨by rw [unhide Hfin]; rfl, hb.setCell (Nat.le_refl _) _⟩

set_option maxHeartbeats 400000 in
theorem formatUint_inner (n : Nat) (hn : n < 4294967296) (w : World) (h : Tab16 w) :
    Calls Tryd.prog 51 #[.int .u64 (n : Int), .int .i64 16] w fun e w' => e = .returned (.string (str (pHex n))) ∧ Below w.heap.size w w' := by
  have H := hide h
  clear h
  go_enter Tryd.func51, Tryd.ntmps51
  go_wp2_with fail
  refine (formatBits_calls n hn _ (unhide H)).mono ?_
  rintro e w' ⟨rfl, hb⟩
  go_wp2
  go_ret
  exact ⟨rfl, hb⟩
set_option maxHeartbeats 400000 in
theorem formatUint_calls (n : Nat) (hn : n < 4294967296) (w : World) (h : Tab16 w) :
    Calls Tryd.prog 41 #[.int .u64 (n : Int), .int .i64 16] w fun e w' => e = .returned (.string (str (pHex n))) ∧ Below w.heap.size w w' := by
  have H := hide h
  clear h
  go_enter Tryd.func41, Tryd.ntmps41
  go_wp2_with fail
  refine (formatUint_inner n hn _ (unhide H)).mono ?_
  rintro e w' ⟨rfl, hb⟩
  go_wp2
  go_ret
  exact ⟨rfl, hb⟩
theorem hexN_length (f n : Nat) : (hexN f n).length ≤ f + 1 := by
  induction f generalizing n with
  | zero => simp [hexN]
  | succ f ih =>
    rw [hexN]; split
    · simp
    · have := ih (n / 16); simp; omega
theorem pHex_length (n : Nat) : (pHex n).length ≤ 9 := hexN_length 8 n
end Go.Proofs.YtdkcgiifldhdeaaDoor
