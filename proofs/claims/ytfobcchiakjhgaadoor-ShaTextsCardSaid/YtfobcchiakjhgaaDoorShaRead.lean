/-
  WHAT sha.Read RETURNS.
-/
import Derived.Test.YtfobcchiakjhgaaDoorReadP
import Derived.Test.YtfobcchiakjhgaaDoorShelfI
namespace Go.Proofs.YtfobcchiakjhgaaDoor
open Go.RowKit
set_option linter.unusedSimpArgs false
set_option linter.unusedVariables false

theorem str_index (l : List UInt8) (n : Nat) (h : n < l.length) (w : World) : (Instr.index 9 (.string (str l)) (.int .i64 (n : Int))).run Tryd.prog w = .ok (.int .u8 ((l.getD n 0).toNat : Int)) w := by
  rw [run_index_string w 9 _ .i64 n Tryd.underlying9, dif_pos ⟨by omega, by rw [str_size]; omega⟩]
  simp only [Int.toNat_natCast]
  rw [byte_at (str l) n (by rw [str_size]; exact h), str_toList]
theorem idx_good (b : UInt8) (h : hv b < 16) (w : World) : Calls Tryd.prog 56 #[.string ⟨#[48, 49, 50, 51, 52, 53, 54, 55, 56, 57, 97, 98, 99, 100, 101, 102]⟩, .int .u8 (b.toNat : Int)] w fun e w' => e = .returned (.int .i64 (hv b : Int)) ∧ w' = w := by
  refine (indexByte_calls _ _ _).mono ?_
  rintro e w' ⟨rfl, rfl⟩
  refine ⟨?_, rfl⟩
  have : (b.toNat : Int).toNat.toUInt8 = b := by simp
  rw [this]
  have h2 := hv_index b
  rw [if_pos h] at h2
  show Ending.returned (.int .i64 (Lib.indexByte hexList b)) = _
  rw [h2]
theorem idx_bad (b : UInt8) (h : ¬ hv b < 16) (w : World) : Calls Tryd.prog 56 #[.string ⟨#[48, 49, 50, 51, 52, 53, 54, 55, 56, 57, 97, 98, 99, 100, 101, 102]⟩, .int .u8 (b.toNat : Int)] w fun e w' => e = .returned (.int .i64 (-1)) ∧ w' = w := by
  refine (indexByte_calls _ _ _).mono ?_
  rintro e w' ⟨rfl, rfl⟩
  refine ⟨?_, rfl⟩
  have : (b.toNat : Int).toNat.toUInt8 = b := by simp
  rw [this]
  have h2 := hv_index b
  rw [if_neg h] at h2
  show Ending.returned (.int .i64 (Lib.indexByte hexList b)) = _
  rw [h2]
theorem idx_good' (b : UInt8) (n : Nat) (hn : hv b = n) (h : n < 16) (w : World) : Calls Tryd.prog 56 #[.string ⟨#[48, 49, 50, 51, 52, 53, 54, 55, 56, 57, 97, 98, 99, 100, 101, 102]⟩, .int .u8 (b.toNat : Int)] w fun e w' => e = .returned (.int .i64 (n : Int)) ∧ w' = w := by
  subst hn; exact idx_good b h w
theorem idx_any (b : UInt8) (w : World) : Calls Tryd.prog 56 #[.string ⟨#[48, 49, 50, 51, 52, 53, 54, 55, 56, 57, 97, 98, 99, 100, 101, 102]⟩, .int .u8 (b.toNat : Int)] w fun e w' => e = .returned (.int .i64 (Lib.indexByte hexList b)) ∧ w' = w := by
  refine (indexByte_calls _ _ _).mono ?_
  rintro e w' ⟨rfl, rfl⟩
  refine ⟨?_, rfl⟩
  have : (b.toNat : Int).toNat.toUInt8 = b := by simp
  rw [this]; rfl
theorem bz : bc (List.replicate 32 0) = #[.int .u8 0, .int .u8 0, .int .u8 0, .int .u8 0, .int .u8 0, .int .u8 0, .int .u8 0, .int .u8 0, .int .u8 0, .int .u8 0, .int .u8 0, .int .u8 0, .int .u8 0, .int .u8 0, .int .u8 0, .int .u8 0, .int .u8 0, .int .u8 0, .int .u8 0, .int .u8 0, .int .u8 0, .int .u8 0, .int .u8 0, .int .u8 0, .int .u8 0, .int .u8 0, .int .u8 0, .int .u8 0, .int .u8 0, .int .u8 0, .int .u8 0, .int .u8 0] := rfl

set_option maxHeartbeats 2000000 in
set_option maxRecDepth 100000 in
theorem read_calls (l : List UInt8) (hl : l.length ≤ maxLen) (w : World) :
    Calls Tryd.prog 27 #[.string (str l)] w fun e w' => e = .returned (.tuple #[.agg (bc (pRead l).1), .bool (pRead l).2]) ∧ Below w.heap.size w w' := by
  have hl64 := hl
  unfold maxLen at hl
  have hi : (Tryd.prog.info? 30).map (·.size) = some (bc (List.replicate 32 0)).size := by rw [bc_size]; kernel_rfl
  have hq := al2 w (.cells (bc (List.replicate 32 0)) 30) (.cells (bc (List.replicate 32 0)) 30)
  have hb0 := bel2 w (.cells (bc (List.replicate 32 0)) 30) (.cells (bc (List.replicate 32 0)) 30)
  obtain ⟨hq0, hq1⟩ := hq
  by_cases h64 : l.length = 64
  · have hne : ((l.length : Int) != 64) = false := by simp; omega
    have Hl := hide h64
    generalize hR : pRead l = R
    have HR := hide hR
    have HQ0 := hide hq0
    have HQ1 := hide hq1
    have HB0 := hide hb0
    clear h64 hR hq0 hq1 hb0 hl64 hl
    go_enter Tryd.func27, Tryd.ntmps27
    go_wp2
    go_loopw [12] (fun i wr => ∃ k : Nat, k ≤ 32 ∧ i = .int .i64 k ∧ Hid (Good l (2 * k)) ∧ Below w.heap.size w wr ∧ w.heap.size + 1 + 1 ≤ wr.heap.size ∧ wr.heap[w.heap.size]? = some (.cells (bc (List.replicate 32 0)) 30 (0, 0)) ∧ wr.heap[w.heap.size + 1]? = some (.cells (bc (rowr l (2 * k))) 30 (0, 0))) (fun i _ => 32 - (intOf i).toNat)
    case atStart => exact ⟨0, by omega, rfl, (fun j hj => by omega), unhide HB0, by simp, unhide HQ0, by rw [Nat.mul_zero, rowr_zero]; exact unhide HQ1⟩
    case round =>
      clear HB0 HQ0 HQ1
      obtain ⟨k, hk, rfl, hG, hb, hz, q0, q1⟩ := hrel
      by_cases hlt : k < 32
      · have hlen := unhide Hl
        obtain ⟨n0, Hn, en⟩ : ∃ n : Nat, Hid (2 * k = n) ∧ (2 : Int) * (k : Int) = (n : Int) := ⟨2 * k, rfl, by omega⟩
        have hn := unhide Hn
        have i0 := str_index l n0 (by omega)
        have i1 := str_index l (n0 + 1) (by omega)
        rw [show ((n0 + 1 : Nat) : Int) = (n0 : Int) + 1 by omega] at i1
        have w0 := wi64 n0 (by omega) (by omega)
        have w1 := wi64 (n0 + 1) (by omega) (by omega)
        have hdk : decide ((k : Int) < 32) = true := by simp; omega
        generalize hx : l.getD n0 0 = x at i0
        generalize hy : l.getD (n0 + 1) 0 = y at i1
        have Hx := hide hx
        have Hy := hide hy
        have Q0 := hide q0
        have Q1 := hide q1
        clear hlen hn hx hy q1
        by_cases hgx : hv x < 16
        · by_cases hgy : hv y < 16
          · have ix := idx_good x hgx
            have iy := idx_good y hgy
            have dx : decide ((hv x : Int) < 0) = false := by simp
            have dy : decide ((hv y : Int) < 0) = false := by simp
            have c : wr.cell? ⟨w.heap.size + 1, k, none⟩ = some (.int .u8 ((pt l (2 * k) k).toNat : Int)) := by
              rw [cell_of_row _ _ _ _ _ _ (unhide Q1), bc_at _ _ (by rw [rowr_length]; exact hlt), rowr_at _ _ _ hlt]
            generalize hv0 : pt l (2 * k) k = v0 at c
            have fz : wr.frozen? ⟨w.heap.size + 1, k, none⟩ = false := frozen_of_row _ _ _ _ _ (unhide Q1)
            have bk : (0 : Int) ≤ k ∧ (k : Int) < 32 := by omega
            generalize hhx : hv x = hx at *
            generalize hhy : hv y = hy at *
            have ws := wi64 ((hx : Int) * 16) (by omega) (by omega)
            have ho := i64_or16 hx hy hgx hgy
            obtain ⟨bb, Hbb, hmod⟩ : ∃ bb : UInt8, Hid (UInt8.ofNat (16 * hx + hy) = bb) ∧ ((16 * hx + hy : Nat) : Int) % 256 = (bb.toNat : Int) := ⟨_, rfl, by rw [UInt8.toNat_ofNat']; omega⟩
            rw [show ((16 * hx + hy : Nat) : Int) = 16 * (hx : Int) + (hy : Int) by omega] at ho hmod
            have Hhx := hide hhx
            have Hhy := hide hhy
            clear q0 hv0 hhx hhy ix iy
            go_wp2_with (first
              | (go_at_call_of 56 (Value.int .u8 (x.toNat : Int)); refine (idx_good' x hx (unhide Hhx) hgx _).mono ?_; rintro en w' ⟨rfl, rfl⟩)
              | (go_at_call 56; refine (idx_good' y hy (unhide Hhy) hgy _).mono ?_; rintro en w' ⟨rfl, rfl⟩))
            have hnn := unhide Hn
            have hpt : pt l (2 * (k + 1)) k = bb := by
              rw [pt, if_pos (by omega), rd, hnn, unhide Hx, unhide Hy, unhide Hhx, unhide Hhy, unhide Hbb]
            refine ⟨⟨k + 1, by omega, by go_num, ?_, hb.setCell (by show w.heap.size ≤ w.heap.size + 1; omega) _, by simpa using hz, ?_, ?_⟩, ?_⟩
            · intro j hj
              by_cases h1 : j < 2 * k
              · exact unhide hG j h1
              · by_cases h2 : j = 2 * k
                · rw [h2, hnn, unhide Hx, unhide Hhx]; exact hgx
                · rw [show j = n0 + 1 by omega, unhide Hy, unhide Hhy]; exact hgy
            · rw [heap_setCell_other _ _ _ _ (by show w.heap.size ≠ w.heap.size + 1; omega)]; exact unhide Q0
            · rw [heap_setCell_same _ _ _ _ _ _ (unhide Q1), show 16 * (hx : Int) + (hy : Int) = (bb.toNat : Int) by omega, rowr_set l (2 * k) (2 * (k + 1)) k bb hlt hpt (fun q hq => by
                unfold pt
                by_cases h1 : 2 * q + 1 < 2 * k
                · rw [if_pos h1, if_pos (by omega)]
                · rw [if_neg h1, if_neg (by omega), if_neg (by omega), if_neg (by omega)])]
            · simp [intOf]; omega
          · have hbad : R = (List.replicate 32 0, false) := by
              rw [← unhide HR]; exact pRead_bad l (n0 + 1) (by have := unhide Hn; omega) (by rw [unhide Hy]; exact hgy)
            have dx : decide ((hv x : Int) < 0) = false := by simp
            have Hbad := hide hbad
            have hgx' := hgx
            generalize hhx : hv x = hx at *
            have Hhx := hide hhx
            clear hhx hbad hgx
            go_wp2_with (first
              | (go_at_call_of 56 (Value.int .u8 (x.toNat : Int)); refine (idx_good' x hx (unhide Hhx) hgx' _).mono ?_; rintro en w' ⟨rfl, rfl⟩)
              | (go_at_call 56; refine (idx_bad y hgy _).mono ?_; rintro en w' ⟨rfl, rfl⟩)
              | (refine wpList_store_row rfl 30 (.tmp 2) (.tmp 32) rfl w.heap.size (bc (List.replicate 32 0)) rfl rfl 30 _ q0 hi rfl (bc_oneCell _) ?_))
            exact bodyPost_ret (results_row_tmp rfl _ _ w.heap.size _ _ _ _ rfl (setRow_heap _ _ _ _ _ _ q0) Tryd.underlying30 rfl hi) rfl ⟨by rw [unhide Hbad]; rfl, below_setRow hb (Nat.le_refl _) _⟩
        · have hbad : R = (List.replicate 32 0, false) := by
            rw [← unhide HR]; exact pRead_bad l n0 (by have := unhide Hn; omega) (by rw [unhide Hx]; exact hgx)
          have Hbad := hide hbad
          clear hbad
          go_wp2_with (first
            | (go_at_call_of 56 (Value.int .u8 (x.toNat : Int)); refine (idx_bad x hgx _).mono ?_; rintro en w' ⟨rfl, rfl⟩)
            | (go_at_call 56; refine (idx_any y _).mono ?_; rintro en w' ⟨rfl, rfl⟩)
            | (refine wpList_store_row rfl 30 (.tmp 2) (.tmp 32) rfl w.heap.size (bc (List.replicate 32 0)) rfl rfl 30 _ q0 hi rfl (bc_oneCell _) ?_))
          exact bodyPost_ret (results_row_tmp rfl _ _ w.heap.size _ _ _ _ rfl (setRow_heap _ _ _ _ _ _ q0) Tryd.underlying30 rfl hi) rfl ⟨by rw [unhide Hbad]; rfl, below_setRow hb (Nat.le_refl _) _⟩
      · have hdk : decide ((k : Int) < 32) = false := by simp; omega
        obtain rfl : k = 32 := by omega
        have hok : R = (rowr l 64, true) := by rw [← unhide HR]; exact pRead_ok l (unhide Hl) (unhide hG)
        have hi2 : (Tryd.prog.info? 30).map (·.size) = some (bc (rowr l 64)).size := by rw [bc_size, rowr_length]; kernel_rfl
        have hsz : (bc (List.replicate 32 (0 : UInt8))).size = (bc (rowr l 64)).size := by rw [bc_size, bc_size, rowr_length]; rfl
        have Hok := hide hok
        have q1' : wr.heap[w.heap.size + 1]? = some (.cells (bc (rowr l 64)) 30 (0, 0)) := q1
        clear hok q1
        go_wp2_with (first
          | (refine wpList_load_row rfl 30 (.tmp 4) rfl (w.heap.size + 1) rfl 30 _ (0, 0) _ q1' Tryd.underlying30 rfl hi2 ?_)
          | (refine wpList_store_row rfl 30 (.tmp 2) (.tmp 41) rfl w.heap.size _ rfl rfl 30 _ q0 hi2 hsz (bc_oneCell _) ?_))
        exact bodyPost_ret (results_row_tmp rfl _ _ w.heap.size _ _ _ _ rfl (setRow_heap _ _ _ _ _ _ q0) Tryd.underlying30 rfl hi2) rfl ⟨by rw [unhide Hok]; rfl, below_setRow hb (Nat.le_refl _) _⟩
  · have hne : ((l.length : Int) != 64) = true := by simp; omega
    have hbad := pRead_len l h64
    rw [hbad]
    clear hbad
    go_enter Tryd.func27, Tryd.ntmps27
    go_wp2_with (refine wpList_store_row rfl 30 (.tmp 2) (.tmp 11) rfl w.heap.size (bc (List.replicate 32 0)) rfl rfl 30 _ hq0 hi rfl (bc_oneCell _) ?_)
    exact bodyPost_ret (results_row_tmp rfl _ _ w.heap.size _ _ _ _ rfl (setRow_heap _ _ _ _ _ _ hq0) Tryd.underlying30 rfl hi) rfl ⟨rfl, below_setRow hb0 (Nat.le_refl _) _⟩
end Go.Proofs.YtfobcchiakjhgaaDoor
