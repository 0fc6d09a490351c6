/-
  WHAT package payload's take AND Read RETURN.
-/
import Derived.Test.YtlanplknendmaaaPayC
import Derived.Test.YtlanplknendmaaaWireRead6
namespace Go.Proofs.Ytlanplknendmaaa
open Go.RowKit
set_option linter.unusedSimpArgs false
set_option linter.unusedVariables false

set_option maxHeartbeats 2000000 in
set_option maxRecDepth 100000 in
theorem ptake_calls (g : Nat) (r : Rd) (hl : r.rest.length ≤ 4611686018427387904) (w : World) (h : RdAt w g r) :
    Calls Try.prog 28 #[.pointer (some ⟨g, 0, none⟩)] w fun e w' => e = .returned r.pl.1.val ∧ RdAt w' g r.pl.2 ∧ Turned g w w' := by
  have k0 := hide (rbyte_calls g r hl w h)
  have m0 := r.num_rest 1
  have hb := Rd.num_lt r 1
  obtain ⟨P, hP⟩ : ∃ P, r.pl = P := ⟨_, rfl⟩
  rw [hP]
  unfold Rd.pl at hP
  generalize (r.num 1).1 = t at *
  obtain ⟨r1, hr1⟩ : ∃ x, (r.num 1).2 = x := ⟨_, rfl⟩
  rw [hr1] at k0 m0 hP
  have hl1 : r1.rest.length ≤ 4611686018427387904 := by omega
  clear hr1 m0 hl h
  have HP := hide hP
  clear hP
  by_cases h1 : t = 1
  · subst h1
    have hP := unhide HP
    rw [if_pos rfl] at hP
    subst hP
    unfold Rd.tr Rd.trR Pl.val trCells
    have m1 := r1.num_rest 4
    have m2 := (r1.num 4).2.text_rest 48
    have m3 := ((r1.num 4).2.text 48).2.text_rest 48
    have k1 := hide fun W (h : RdAt W g r1) => rword_calls _ r1 hl1 W h
    have k2 := hide fun W (h : RdAt W g (r1.num 4).2) => rdtext_calls _ (r1.num 4).2 (by omega) 48 W h
    have k3 := hide fun W (h : RdAt W g ((r1.num 4).2.text 48).2) => rdtext_calls _ ((r1.num 4).2.text 48).2 (by omega) 48 W h
    have k4 := hide fun W (h : RdAt W g (((r1.num 4).2.text 48).2.text 48).2) => rlong_calls _ (((r1.num 4).2.text 48).2.text 48).2 (by omega) W h
    generalize (((r1.num 4).2.text 48).2.text 48).2.num 8 = x4 at *
    generalize ((r1.num 4).2.text 48).2.text 48 = x3 at *
    generalize (r1.num 4).2.text 48 = x2 at *
    generalize r1.num 4 = x1 at *
    obtain ⟨a1, s1⟩ := x1
    obtain ⟨a2, s2⟩ := x2
    obtain ⟨a3, s3⟩ := x3
    obtain ⟨a4, s4⟩ := x4
    simp only at *
    clear m1 m2 m3 hl1 HP hb
    go_enter Try.func28, Try.ntmps28
    go_wp2_with fail
    refine (unhide k0).mono ?_
    rintro e w0 ⟨rfl, R0, T0⟩
    go_wp2_with fail
    refine (unhide k1 _ R0).mono ?_
    rintro e w1 ⟨rfl, R1, T1⟩
    go_wp2_with fail
    refine (unhide k2 _ R1).mono ?_
    rintro e w2 ⟨rfl, R2, T2⟩
    go_wp2_with fail
    refine (unhide k3 _ R2).mono ?_
    rintro e w3 ⟨rfl, R3, T3⟩
    go_wp2_with fail
    refine (unhide k4 _ R3).mono ?_
    rintro e w4 ⟨rfl, R4, T4⟩
    have T := (((T0.trans T1).trans T2).trans T3).trans T4
    clear T0 T1 T2 T3 T4 R0 R1 R2 R3
    go_wp2_with fail
    go_ret
    exact ⟨rfl, R4, T⟩
  · by_cases h2 : t = 2
    · subst h2
      have hP := unhide HP
      rw [if_neg h1, if_pos rfl] at hP
      subst hP
      unfold Rd.sa Rd.saR Pl.val saCells
      have m1 := r1.text_rest 48
      have k1 := hide fun W (h : RdAt W g r1) => rdtext_calls _ r1 hl1 48 W h
      have k2 := hide fun W (h : RdAt W g (r1.text 48).2) => rdtext_calls _ (r1.text 48).2 (by omega) 256 W h
      generalize (r1.text 48).2.text 256 = x2 at *
      generalize r1.text 48 = x1 at *
      obtain ⟨a1, s1⟩ := x1
      obtain ⟨a2, s2⟩ := x2
      simp only at *
      clear m1 hl1 HP hb h1
      go_enter Try.func28, Try.ntmps28
      go_wp2_with fail
      refine (unhide k0).mono ?_
      rintro e w0 ⟨rfl, R0, T0⟩
      go_wp2_with fail
      refine (unhide k1 _ R0).mono ?_
      rintro e w1 ⟨rfl, R1, T1⟩
      go_wp2_with fail
      refine (unhide k2 _ R1).mono ?_
      rintro e w2 ⟨rfl, R2, T2⟩
      have T := (T0.trans T1).trans T2
      clear T0 T1 T2 R0 R1
      go_wp2_with fail
      go_ret
      exact ⟨rfl, R2, T⟩
    · by_cases h3 : t = 3
      · subst h3
        have hP := unhide HP
        rw [if_neg h1, if_neg h2, if_pos rfl] at hP
        subst hP
        unfold Rd.de Rd.deR Pl.val deCells
        have m1 := r1.num_rest 4
        have m2 := (r1.num 4).2.text_rest 48
        have k1 := hide fun W (h : RdAt W g r1) => rword_calls _ r1 hl1 W h
        have k2 := hide fun W (h : RdAt W g (r1.num 4).2) => rdtext_calls _ (r1.num 4).2 (by omega) 48 W h
        have k3 := hide fun W (h : RdAt W g ((r1.num 4).2.text 48).2) => rlong_calls _ ((r1.num 4).2.text 48).2 (by omega) W h
        generalize ((r1.num 4).2.text 48).2.num 8 = x3 at *
        generalize (r1.num 4).2.text 48 = x2 at *
        generalize r1.num 4 = x1 at *
        obtain ⟨a1, s1⟩ := x1
        obtain ⟨a2, s2⟩ := x2
        obtain ⟨a3, s3⟩ := x3
        simp only at *
        clear m1 m2 hl1 HP hb h1 h2
        go_enter Try.func28, Try.ntmps28
        go_wp2_with fail
        refine (unhide k0).mono ?_
        rintro e w0 ⟨rfl, R0, T0⟩
        go_wp2_with fail
        refine (unhide k1 _ R0).mono ?_
        rintro e w1 ⟨rfl, R1, T1⟩
        go_wp2_with fail
        refine (unhide k2 _ R1).mono ?_
        rintro e w2 ⟨rfl, R2, T2⟩
        go_wp2_with fail
        refine (unhide k3 _ R2).mono ?_
        rintro e w3 ⟨rfl, R3, T3⟩
        have T := ((T0.trans T1).trans T2).trans T3
        clear T0 T1 T2 T3 R0 R1 R2
        go_wp2_with fail
        go_ret
        exact ⟨rfl, R3, T⟩
      · have hP := unhide HP
        rw [if_neg h1, if_neg h2, if_neg h3] at hP
        subst hP
        unfold Pl.val
        have e1 : ((t : Int) == 1) = false := by simp; omega
        have e2 : ((t : Int) == 2) = false := by simp; omega
        have e3 : ((t : Int) == 3) = false := by simp; omega
        have k1 := hide fun W (h : RdAt W g r1) => fail_calls g r1 4 W h
        simp only
        generalize r1.fail 4 = s1 at *
        clear HP h1 h2 h3 hb hl1
        go_enter Try.func28, Try.ntmps28
        go_wp2_with fail
        refine (unhide k0).mono ?_
        rintro e w0 ⟨rfl, R0, T0⟩
        go_wp2_with fail
        refine (unhide k1 _ R0).mono ?_
        rintro e w1 ⟨rfl, R1, T1⟩
        have T := T0.trans T1
        go_wp2_with fail
        go_ret
        exact ⟨rfl, R1, T⟩
end Go.Proofs.Ytlanplknendmaaa
