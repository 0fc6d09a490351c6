/-
  WHAT THE REFERENCE'S Read RETURNS.
-/
import Derived.Test.YtfobcchiakjhgaaDoorShaRead
namespace Go.Proofs.YtfobcchiakjhgaaDoor
open Go.RowKit
set_option linter.unusedSimpArgs false
set_option linter.unusedVariables false

set_option maxHeartbeats 2000000 in
set_option maxRecDepth 100000 in
theorem rread_calls (l : List UInt8) (hl : l.length ≤ maxLen) (w : World) :
    Calls Tryd.prog 28 #[.string (str l)] w fun e w' => e = .returned (.tuple #[.agg (bc (pRead l).1), .bool (pRead l).2]) ∧ Below w.heap.size w w' := by
  unfold maxLen at hl
  have hi : (Tryd.prog.info? 30).map (·.size) = some (bc (List.replicate 32 0)).size := by rw [bc_size]; kernel_rfl
  have hq := al2 w (.cells (bc (List.replicate 32 0)) 30) (.cells (bc (List.replicate 32 0)) 30)
  have hb0 := bel2 w (.cells (bc (List.replicate 32 0)) 30) (.cells (bc (List.replicate 32 0)) 30)
  obtain ⟨hq0, hq1⟩ := hq
  by_cases h64 : l.length = 64
  · have hne : ((l.length : Int) != 64) = false := by simp; omega
    have Hl := hide h64
    generalize hR : pRead l = R
    have HR := hide hR
    have HQ0 := hide hq0
    have HQ1 := hide hq1
    have HB0 := hide hb0
    clear h64 hR hq0 hq1 hb0 hl
    go_enter Tryd.func28, Tryd.ntmps28
    go_wp2
    go_loopw [5] (fun i wr => ∃ k : Nat, k ≤ 64 ∧ i = .int .i64 k ∧ Hid (Good l k) ∧ Below w.heap.size w wr ∧ w.heap.size + 1 + 1 ≤ wr.heap.size ∧ wr.heap[w.heap.size]? = some (.cells (bc (List.replicate 32 0)) 30 (0, 0)) ∧ wr.heap[w.heap.size + 1]? = some (.cells (bc (rowr l k)) 30 (0, 0))) (fun i _ => 64 - (intOf i).toNat)
    case atStart => exact ⟨0, by omega, rfl, (fun j hj => by omega), unhide HB0, by simp, unhide HQ0, by rw [rowr_zero]; exact unhide HQ1⟩
    case round =>
      clear HB0 HQ0 HQ1
      obtain ⟨k, hk, rfl, hG, hb, hz, q0, q1⟩ := hrel
      by_cases hlt : k < 64
      · have hlen := unhide Hl
        have i0 := str_index l k (by omega)
        have hdk : decide ((k : Int) < 64) = true := by simp; omega
        generalize hx : l.getD k 0 = x at i0
        have Hx := hide hx
        have Q0 := hide q0
        have Q1 := hide q1
        have hx8 := x.toNat_lt
        have hvr := hv_ref x
        have c : wr.cell? ⟨w.heap.size + 1, k / 2, none⟩ = some (.int .u8 ((pt l k (k / 2)).toNat : Int)) := by
          rw [cell_of_row _ _ _ _ _ _ (unhide Q1), bc_at _ _ (by rw [rowr_length]; omega), rowr_at _ _ _ (by omega)]
        have fz : wr.frozen? ⟨w.heap.size + 1, k / 2, none⟩ = false := frozen_of_row _ _ _ _ _ (unhide Q1)
        generalize hv0 : pt l k (k / 2) = v0 at c
        obtain ⟨qq, hqq, eqq⟩ : ∃ qq : Nat, Hid (k / 2 = qq) ∧ (k : Int) / 2 = (qq : Int) := ⟨_, rfl, by omega⟩
        rw [unhide hqq] at c fz
        have bq : (0 : Int) ≤ qq ∧ (qq : Int) < 32 := by have := unhide hqq; omega
        have hnew : ∀ n, hv x = n → n < 16 → pt l (k + 1) qq = UInt8.ofNat (v0.toNat * 16 + n) ∧ v0.toNat * 16 + n < 256 := fun n hn hn16 => by
          have hqk := unhide hqq
          rcases Nat.mod_two_eq_zero_or_one k with hm | hm
          · have e0 : v0 = 0 := by rw [← hv0, hqk, pt, if_neg (by omega), if_neg (by omega)]
            subst e0
            refine ⟨?_, by show 0 * 16 + n < 256; omega⟩
            rw [pt, if_neg (by omega), if_pos (by omega), show 2 * qq = k by omega, hx, hn]
            show _ = UInt8.ofNat (0 * 16 + n)
            rw [Nat.zero_mul, Nat.zero_add]
          · have hg := unhide hG (2 * qq) (by omega)
            have e0 : v0 = UInt8.ofNat (hv (l.getD (2 * qq) 0)) := by rw [← hv0, hqk, pt, if_neg (by omega), if_pos (by omega)]
            have e1 : v0.toNat = hv (l.getD (2 * qq) 0) := by rw [e0, UInt8.toNat_ofNat']; omega
            refine ⟨?_, by omega⟩
            rw [pt, if_pos (by omega), rd, show 2 * qq + 1 = k by omega, hx, hn, e1, Nat.mul_comm]
        have hrest : ∀ q, q ≠ qq → pt l (k + 1) q = pt l k q := fun q hq => by
          have hqk := unhide hqq
          unfold pt
          by_cases h1 : 2 * q + 1 < k
          · rw [if_pos h1, if_pos (by omega)]
          · rw [if_neg h1, if_neg (by omega)]
            by_cases h2 : 2 * q < k
            · rw [if_pos h2, if_pos (by omega)]
            · rw [if_neg h2, if_neg (by omega)]
        have Hnew := hide hnew
        have Hrest := hide hrest
        clear hlen hx hv0 q1 hnew hrest
        by_cases hd1 : 48 ≤ x.toNat ∧ x.toNat ≤ 57
        · rw [if_pos hd1] at hvr
          have a1 : decide ((48 : Int) ≤ (x.toNat : Int)) = true := by simp; omega
          have a2 : decide ((x.toNat : Int) ≤ 57) = true := by simp; omega
          have a3 : decide ((97 : Int) ≤ (x.toNat : Int)) = false := by simp; omega
          obtain ⟨n, Hn, en⟩ : ∃ n : Nat, Hid (x.toNat - 48 = n) ∧ (x.toNat : Int) - 48 = (n : Int) := ⟨_, rfl, by omega⟩
          have hn16 : n < 16 := by have := unhide Hn; omega
          have n16 : ((n : Int) == 16) = false := by simp; omega
          have nw : (n : Int) % 256 = n := by omega
          have Hvr := hide hvr
          obtain ⟨nw1, nw2⟩ := unhide Hnew n (hvr.trans (unhide Hn)) hn16
          obtain ⟨bb, Hbb, hmod⟩ : ∃ bb : UInt8, Hid (UInt8.ofNat (v0.toNat * 16 + n) = bb) ∧ (v0.toNat : Int) * 16 + (n : Int) = (bb.toNat : Int) := ⟨_, rfl, by rw [UInt8.toNat_ofNat']; omega⟩
          have NW1 := hide nw1
          clear hvr q0 nw1
          go_wp2
          refine ⟨⟨k + 1, by omega, by go_num, ?_, hb.setCell (by show w.heap.size ≤ w.heap.size + 1; omega) _, by simpa using hz, ?_, ?_⟩, ?_⟩
          · intro j hj
            by_cases h1 : j < k
            · exact unhide hG j h1
            · rw [show j = k by omega, unhide Hx, unhide Hvr]; have := unhide Hn; omega
          · rw [heap_setCell_other _ _ _ _ (by show w.heap.size ≠ w.heap.size + 1; omega)]; exact unhide Q0
          · rw [heap_setCell_same _ _ _ _ _ _ (unhide Q1), rowr_set l k (k + 1) qq bb (by omega) ((unhide NW1).trans (unhide Hbb)) (unhide Hrest)]
          · simp [intOf]; omega
        · rw [if_neg hd1] at hvr
          by_cases hd2 : 97 ≤ x.toNat ∧ x.toNat ≤ 102
          · rw [if_pos hd2] at hvr
            have a1 : decide ((48 : Int) ≤ (x.toNat : Int)) = true := by simp; omega
            have a2 : decide ((x.toNat : Int) ≤ 57) = false := by simp; omega
            have b1 : decide ((97 : Int) ≤ (x.toNat : Int)) = true := by simp; omega
            have b2 : decide ((x.toNat : Int) ≤ 102) = true := by simp; omega
            obtain ⟨n, Hn, en⟩ : ∃ n : Nat, Hid (x.toNat - 97 + 10 = n) ∧ (x.toNat : Int) - 97 + 10 = (n : Int) := ⟨_, rfl, by omega⟩
            obtain ⟨m, Hm, em⟩ : ∃ m : Nat, Hid (x.toNat - 97 = m) ∧ (x.toNat : Int) - 97 = (m : Int) := ⟨_, rfl, by omega⟩
            rw [em] at en
            have hn16 : n < 16 := by have := unhide Hn; omega
            have hm6 : m < 6 := by have := unhide Hm; omega
            have n16 : ((n : Int) == 16) = false := by simp; omega
            have nw : (n : Int) % 256 = n := by omega
            have mw : (m : Int) % 256 = m := by omega
            have Hvr := hide hvr
            obtain ⟨nw1, nw2⟩ := unhide Hnew n (hvr.trans (unhide Hn)) hn16
            obtain ⟨bb, Hbb, hmod⟩ : ∃ bb : UInt8, Hid (UInt8.ofNat (v0.toNat * 16 + n) = bb) ∧ (v0.toNat : Int) * 16 + (n : Int) = (bb.toNat : Int) := ⟨_, rfl, by rw [UInt8.toNat_ofNat']; omega⟩
            have NW1 := hide nw1
            clear hvr q0 nw1
            go_wp2
            refine ⟨⟨k + 1, by omega, by go_num, ?_, hb.setCell (by show w.heap.size ≤ w.heap.size + 1; omega) _, by simpa using hz, ?_, ?_⟩, ?_⟩
            · intro j hj
              by_cases h1 : j < k
              · exact unhide hG j h1
              · rw [show j = k by omega, unhide Hx, unhide Hvr]; have := unhide Hn; omega
            · rw [heap_setCell_other _ _ _ _ (by show w.heap.size ≠ w.heap.size + 1; omega)]; exact unhide Q0
            · rw [heap_setCell_same _ _ _ _ _ _ (unhide Q1), rowr_set l k (k + 1) qq bb (by omega) ((unhide NW1).trans (unhide Hbb)) (unhide Hrest)]
            · simp [intOf]; omega
          · rw [if_neg hd2] at hvr
            have hbad : R = (List.replicate 32 0, false) := by
              rw [← unhide HR]; exact pRead_bad l k hlt (by rw [unhide Hx, hvr]; omega)
            by_cases h1 : x.toNat < 48
            · have Hbad := hide hbad
              have a1 : decide ((48 : Int) ≤ (x.toNat : Int)) = false := by simp; omega
              have b1 : decide ((97 : Int) ≤ (x.toNat : Int)) = false := by simp; omega
              clear hbad hvr
              go_wp2_with (refine wpList_store_row rfl 30 (.tmp 2) (.tmp 46) rfl w.heap.size (bc (List.replicate 32 0)) rfl rfl 30 _ q0 hi rfl (bc_oneCell _) ?_)
              exact bodyPost_ret (results_row_tmp rfl _ _ w.heap.size _ _ _ _ rfl (setRow_heap _ _ _ _ _ _ q0) Tryd.underlying30 rfl hi) rfl ⟨by rw [unhide Hbad]; rfl, below_setRow hb (Nat.le_refl _) _⟩
            · by_cases h2 : x.toNat < 97
              · have Hbad := hide hbad
                have a1 : decide ((48 : Int) ≤ (x.toNat : Int)) = true := by simp; omega
                have a2 : decide ((x.toNat : Int) ≤ 57) = false := by simp; omega
                have b1 : decide ((97 : Int) ≤ (x.toNat : Int)) = false := by simp; omega
                clear hbad hvr
                go_wp2_with (refine wpList_store_row rfl 30 (.tmp 2) (.tmp 46) rfl w.heap.size (bc (List.replicate 32 0)) rfl rfl 30 _ q0 hi rfl (bc_oneCell _) ?_)
                exact bodyPost_ret (results_row_tmp rfl _ _ w.heap.size _ _ _ _ rfl (setRow_heap _ _ _ _ _ _ q0) Tryd.underlying30 rfl hi) rfl ⟨by rw [unhide Hbad]; rfl, below_setRow hb (Nat.le_refl _) _⟩
              · have Hbad := hide hbad
                have a1 : decide ((48 : Int) ≤ (x.toNat : Int)) = true := by simp; omega
                have a2 : decide ((x.toNat : Int) ≤ 57) = false := by simp; omega
                have b1 : decide ((97 : Int) ≤ (x.toNat : Int)) = true := by simp; omega
                have b2 : decide ((x.toNat : Int) ≤ 102) = false := by simp; omega
                clear hbad hvr
                go_wp2_with (refine wpList_store_row rfl 30 (.tmp 2) (.tmp 46) rfl w.heap.size (bc (List.replicate 32 0)) rfl rfl 30 _ q0 hi rfl (bc_oneCell _) ?_)
                exact bodyPost_ret (results_row_tmp rfl _ _ w.heap.size _ _ _ _ rfl (setRow_heap _ _ _ _ _ _ q0) Tryd.underlying30 rfl hi) rfl ⟨by rw [unhide Hbad]; rfl, below_setRow hb (Nat.le_refl _) _⟩
      · have hdk : decide ((k : Int) < 64) = false := by simp; omega
        obtain rfl : k = 64 := by omega
        have hok : R = (rowr l 64, true) := by rw [← unhide HR]; exact pRead_ok l (unhide Hl) (unhide hG)
        have hi2 : (Tryd.prog.info? 30).map (·.size) = some (bc (rowr l 64)).size := by rw [bc_size, rowr_length]; kernel_rfl
        have hsz : (bc (List.replicate 32 (0 : UInt8))).size = (bc (rowr l 64)).size := by rw [bc_size, bc_size, rowr_length]; rfl
        have Hok := hide hok
        clear hok
        go_wp2_with (first
          | (refine wpList_load_row rfl 30 (.tmp 4) rfl (w.heap.size + 1) rfl 30 _ (0, 0) _ q1 Tryd.underlying30 rfl hi2 ?_)
          | (refine wpList_store_row rfl 30 (.tmp 2) (.tmp 57) rfl w.heap.size _ rfl rfl 30 _ q0 hi2 hsz (bc_oneCell _) ?_))
        exact bodyPost_ret (results_row_tmp rfl _ _ w.heap.size _ _ _ _ rfl (setRow_heap _ _ _ _ _ _ q0) Tryd.underlying30 rfl hi2) rfl ⟨by rw [unhide Hok]; rfl, below_setRow hb (Nat.le_refl _) _⟩
  · have hne : ((l.length : Int) != 64) = true := by simp; omega
    have hbad := pRead_len l h64
    rw [hbad]
    clear hbad
    go_enter Tryd.func28, Tryd.ntmps28
    go_wp2_with (first
      | (refine wpList_load_row rfl 30 (.tmp 4) rfl (w.heap.size + 1) rfl 30 _ (0, 0) _ hq1 Tryd.underlying30 rfl hi ?_)
      | (refine wpList_store_row rfl 30 (.tmp 2) (.tmp 10) rfl w.heap.size (bc (List.replicate 32 0)) rfl rfl 30 _ hq0 hi rfl (bc_oneCell _) ?_))
    exact bodyPost_ret (results_row_tmp rfl _ _ w.heap.size _ _ _ _ rfl (setRow_heap _ _ _ _ _ _ hq0) Tryd.underlying30 rfl hi) rfl ⟨rfl, below_setRow hb0 (Nat.le_refl _) _⟩
end Go.Proofs.YtfobcchiakjhgaaDoor
