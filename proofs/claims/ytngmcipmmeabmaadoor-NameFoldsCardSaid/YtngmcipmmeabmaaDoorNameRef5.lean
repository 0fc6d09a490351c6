/-
  WHAT THE DOCUMENT'S OWN Order OF LAYER 2 RETURNS: what name's own answers.
-/
import Derived.Test.YtngmcipmmeabmaaDoorNameRef3
import Derived.Test.YtngmcipmmeabmaaDoorNameOrder2
import Derived.Deep.QuietTactic
import Derived.BigQuiet
namespace Go.Proofs.YtngmcipmmeabmaaDoor
open Go.RowKit
set_option linter.unusedSimpArgs false
set_option linter.unusedVariables false

theorem ordN_drop (xs ys : List Nat) (j : Nat) (h1 : j < xs.length) (h2 : j < ys.length) :
    ordN (xs.drop j) (ys.drop j) = if xs.getD j 0 < ys.getD j 0 then -1 else if ys.getD j 0 < xs.getD j 0 then 1 else ordN (xs.drop (j + 1)) (ys.drop (j + 1)) := by
  rw [drop_consN xs j h1, drop_consN ys j h2]; rfl
set_option maxHeartbeats 4000000 in
set_option maxRecDepth 100000 in
theorem rorder_calls (a b : List UInt8) (ha : a.length ≤ 1000000) (hb0 : b.length ≤ 1000000) (w : World) :
    Calls Tryd.prog 21 #[.string (str a), .string (str b)] w fun e w' => e = .returned (.int .i64 (ordN (nums a) (nums b))) ∧ Below w.heap.size w w' := by
  have hna := numbers_calls a (by omega)
  have hnb := numbers_calls b (by omega)
  have hla := nums_le a
  have hlb := nums_le b
  have haa := nums_at a
  have hab := nums_at b
  generalize nums a = xs at *
  generalize nums b = ys at *
  generalize hR : ordN xs ys = R
  have HR := hide hR
  have Hna := hide hna
  have Hnb := hide hnb
  have Haa := hide haa
  have Hab := hide hab
  clear hna hnb hR haa hab
  go_enter Tryd.func21, Tryd.ntmps21
  go_wp2_with fail
  refine (unhide Hna _).mono ?_
  rintro e w1 ⟨v, rfl, hN, b1⟩
  obtain ⟨p, cap, rfl, hp⟩ := hN
  have Hp := hide hp
  clear hp Hna
  go_wp2_with fail
  refine (unhide Hnb _).mono ?_
  rintro e w2 ⟨v, rfl, hN, hb2⟩
  obtain ⟨p2, cap2, rfl, hp2⟩ := hN
  have Hp2 := hide hp2
  have b2 := b1.trans (hb2.mono b1.size)
  have HB2 := hide hb2
  clear hp2 Hnb hb2
  go_wp2
  go_loopw [7] (fun i wr => ∃ j : Nat, j ≤ xs.length ∧ j ≤ ys.length ∧ i = .int .i64 (j : Int) ∧ Hid (R = ordN (xs.drop j) (ys.drop j)) ∧ Below w2.heap.size w2 wr) (fun i _ => xs.length - (intOf i).toNat)
  case atStart => exact ⟨0, by omega, by omega, rfl, (unhide HR).symm, Below.refl _ _⟩
  case round =>
    obtain ⟨j, hj, hj2, rfl, hX, hbr⟩ := hrel
    have bW : Below w.heap.size w wr := b2.trans (hbr.mono b2.size)
    by_cases hlt : j < xs.length
    · have hd : decide (j < xs.length) = true := by simpa using hlt
      by_cases hlt2 : j < ys.length
      · have hd2 : decide (j < ys.length) = true := by simpa using hlt2
        have bk : (j : Int) < (xs.length : Int) := by omega
        have bk2 : (j : Int) < (ys.length : Int) := by omega
        obtain ⟨g, rfl, hg, hc⟩ := unhide Hp (by intro h0; rw [h0] at hlt; simp at hlt)
        obtain ⟨g2, rfl, hg2, hc2⟩ := unhide Hp2 (by intro h0; rw [h0] at hlt2; simp at hlt2)
        have c : wr.cell? ⟨g, j, none⟩ = some (.int .i64 ((xs.getD j 0 : Nat) : Int)) := by
          rw [hbr.cell (p := ⟨g, j, none⟩) (Nat.lt_of_lt_of_le hg (unhide HB2).size), (unhide HB2).cell (p := ⟨g, j, none⟩) hg]; exact hc j hlt
        have c2 : wr.cell? ⟨g2, j, none⟩ = some (.int .i64 ((ys.getD j 0 : Nat) : Int)) := by
          rw [hbr.cell (p := ⟨g2, j, none⟩) hg2]; exact hc2 j hlt2
        have hX2 := unhide hX
        rw [ordN_drop xs ys j hlt hlt2] at hX2
        have hxb := unhide Haa j hlt
        have hyb := unhide Hab j hlt2
        generalize xs.getD j 0 = x at *
        generalize ys.getD j 0 = y at *
        clear hc hc2 hX HR
        by_cases hxy : x < y
        · have d1 : decide (x < y) = true := by simpa using hxy
          rw [if_pos hxy] at hX2
          subst hX2
          go_wp2
          go_quiet (fail)
          go_wp2
          go_ret
          exact ⟨rfl, below_drewN bW _⟩
        · have d1 : decide (x < y) = false := by simpa using hxy
          rw [if_neg hxy] at hX2
          by_cases hyx : y < x
          · have d2 : decide (y < x) = true := by simpa using hyx
            rw [if_pos hyx] at hX2
            subst hX2
            go_wp2
            go_quiet (fail)
            go_wp2
            go_quiet (fail)
            go_wp2
            go_ret
            exact ⟨rfl, below_drewN (below_drewN bW _) _⟩
          · have d2 : decide (y < x) = false := by simpa using hyx
            rw [if_neg hyx] at hX2
            have HX2 := hide hX2
            clear hX2
            go_wp2
            go_quiet (fail)
            go_wp2
            go_quiet (fail)
            go_wp2
            refine ⟨⟨j + 1, by omega, by omega, by go_num, HX2, below_drewN hbr _⟩, ?_⟩
            simp [intOf]; omega
      · have hd2 : decide (j < ys.length) = false := by simpa using hlt2
        have hX2 := unhide hX
        rw [List.drop_of_length_le (show ys.length ≤ j by omega), drop_consN xs j hlt] at hX2
        have hRv : R = 1 := hX2
        subst hRv
        have e1 : decide (xs.length < ys.length) = false := by simp; omega
        have e2 : decide (ys.length < xs.length) = true := by simp; omega
        clear hX hX2 HR
        go_wp2
        go_ret
        exact ⟨rfl, bW⟩
    · have hd : decide (j < xs.length) = false := by simpa using hlt
      have hX2 := unhide hX
      rw [List.drop_of_length_le (show xs.length ≤ j by omega)] at hX2
      by_cases hlt2 : j < ys.length
      · rw [drop_consN ys j hlt2] at hX2
        have hRv : R = -1 := hX2
        subst hRv
        have e1 : decide (xs.length < ys.length) = true := by simp; omega
        clear hX hX2 HR
        go_wp2
        go_ret
        exact ⟨rfl, bW⟩
      · rw [List.drop_of_length_le (show ys.length ≤ j by omega)] at hX2
        have hRv : R = 0 := hX2
        subst hRv
        have e1 : decide (xs.length < ys.length) = false := by simp; omega
        have e2 : decide (ys.length < xs.length) = false := by simp; omega
        clear hX hX2 HR
        go_wp2
        go_ret
        exact ⟨rfl, bW⟩
end Go.Proofs.YtngmcipmmeabmaaDoor
