/-
  WHAT THE DOCUMENT'S OWN Right, Says OF LAYER 2 RETURN: what name's own answer.
-/
import Derived.Test.YtlanplknendmaaaNameRef2
namespace Go.Proofs.Ytlanplknendmaaa
open Go.RowKit
set_option linter.unusedSimpArgs false
set_option linter.unusedVariables false

theorem rsmall_calls (r : Nat) (w : World) :
    Calls Try.prog 54 #[.int .i64 (r : Int)] w fun e w' => e = .returned (.bool (pSmall r)) ∧ w' = w := by
  cases d1 : decide ((97 : Int) ≤ (r : Int)) <;> cases d2 : decide ((r : Int) ≤ 122) <;> cases d3 : decide ((945 : Int) ≤ (r : Int)) <;> cases d4 : decide ((r : Int) ≤ 969)
  all_goals
    generalize hp : pSmall r = p
    have Hp := hide hp
    clear hp
    go_enter Try.func54, Try.ntmps54
    go_wp2
    go_ret
    refine ⟨?_, rfl⟩
    rw [← unhide Hp]
    simp only [decide_eq_true_eq, decide_eq_false_iff_not] at d1 d2 d3 d4
    simp [pSmall]
    omega
theorem drop_consN (l : List Nat) (k : Nat) (h : k < l.length) : l.drop k = l.getD k 0 :: l.drop (k + 1) := by
  rw [List.drop_eq_getElem_cons h, List.getD_eq_getElem?_getD, List.getElem?_eq_getElem h]; rfl
theorem nameNums_drop (xs : List Nat) (i j : Nat) (h : j < xs.length) : nameNums i (xs.drop j) = (nameRune i (xs.getD j 0) && nameNums (i + 1) (xs.drop (j + 1))) := by
  rw [drop_consN xs j h]; rfl
set_option maxHeartbeats 2000000 in
theorem rright_calls (l : List UInt8) (hl : l.length ≤ 1000000000) (w : World) :
    Calls Try.prog 34 #[.string (str l)] w fun e w' => e = .returned (.bool (pRight l)) ∧ Below w.heap.size w w' := by
  have hnum := numbers_calls l hl
  have hlen := nums_le l
  have hat := nums_at l
  rw [pRight_nums]
  generalize nums l = xs at *
  generalize hR : (nameNums 0 xs && (decide (1 ≤ xs.length) && decide (xs.length ≤ 12))) = R
  have HR := hide hR
  have Hnum := hide hnum
  have Hat := hide hat
  clear hnum hat hR
  go_enter Try.func34, Try.ntmps34
  go_wp2_with fail
  refine (unhide Hnum _).mono ?_
  rintro e w1 ⟨v, rfl, hN, b1⟩
  obtain ⟨p, cap, rfl, hp⟩ := hN
  have Hp := hide hp
  clear hp Hnum
  go_wp2
  go_loopw [10] (fun i wr => ∃ j : Nat, j ≤ xs.length ∧ i = .int .i64 (j : Int) ∧ Hid (nameNums 0 xs = nameNums j (xs.drop j)) ∧ wr = w1) (fun i _ => xs.length - (intOf i).toNat)
  case atStart => exact ⟨0, by omega, rfl, rfl, rfl⟩
  case round =>
    obtain ⟨j, hj, rfl, hX, rfl⟩ := hrel
    by_cases hlt : j < xs.length
    · have hd : decide (j < xs.length) = true := by simpa using hlt
      have bk : (j : Int) < (xs.length : Int) := by omega
      obtain ⟨g, rfl, hg, hc⟩ := unhide Hp (by intro h0; rw [h0] at hlt; simp at hlt)
      have c := hc j hlt
      have hX2 := unhide hX
      rw [nameNums_drop xs j j hlt] at hX2
      generalize xs.getD j 0 = x at *
      have hsm := rsmall_calls x
      cases hn : nameRune j x with
      | true =>
        rw [hn, Bool.true_and] at hX2
        have HX2 := hide hX2
        by_cases hps : pSmall x = true
        · rw [hps] at hsm
          have Hsm := hide hsm
          clear hsm hX2 hc hn hX hps
          go_wp2_with fail
          refine (unhide Hsm _).mono ?_
          rintro e w' ⟨rfl, rfl⟩
          go_wp2
          go_roundw
          case rel => exact ⟨j + 1, by omega, by go_num, HX2, trivial⟩
          case measure => simp [intOf]; omega
        · have hps' : pSmall x = false := by simpa using hps
          rw [hps'] at hsm
          have hjx : j ≠ 0 ∧ 48 ≤ x ∧ x ≤ 57 := by
            simp [nameRune, hps', pDigit] at hn; omega
          have e1 : ((j : Int) == 0) = false := by simp; omega
          have e2 : decide ((x : Int) < 48) = false := by simp; omega
          have e3 : decide ((57 : Int) < (x : Int)) = false := by simp; omega
          have e4 : (j == 0) = false := by simp; omega
          have Hsm := hide hsm
          clear hsm hX2 hc hn hX hps
          go_wp2_with fail
          refine (unhide Hsm _).mono ?_
          rintro e w' ⟨rfl, rfl⟩
          go_wp2
          go_roundw
          case rel => exact ⟨j + 1, by omega, by go_num, HX2, trivial⟩
          case measure => simp [intOf]; omega
      | false =>
        rw [hn, Bool.false_and] at hX2
        have hRf : R = false := by rw [← unhide HR, hX2]; rfl
        subst hRf
        have hps : pSmall x = false := by
          cases hp : pSmall x with
          | false => rfl
          | true => simp [nameRune, hp] at hn
        rw [hps] at hsm
        have Hsm := hide hsm
        clear hsm hX2 hc hX HR
        by_cases hj0 : j = 0
        · have e1 : (j == 0) = true := by simpa using hj0
          have e1' : ((j : Int) == 0) = true := by simp; omega
          clear hn hps hj0
          go_wp2_with fail
          refine (unhide Hsm _).mono ?_
          rintro e w' ⟨rfl, rfl⟩
          go_wp2
          go_ret
          exact ⟨rfl, b1⟩
        · have e1 : (j == 0) = false := by simpa using hj0
          have e1' : ((j : Int) == 0) = false := by simp; omega
          have hdg : ¬ (48 ≤ x ∧ x ≤ 57) := by
            simp [nameRune, hps, pDigit, hj0] at hn; omega
          by_cases h48 : x < 48
          · have e2 : decide ((x : Int) < 48) = true := by simp; omega
            clear hn hps
            go_wp2_with fail
            refine (unhide Hsm _).mono ?_
            rintro e w' ⟨rfl, rfl⟩
            go_wp2
            go_ret
            exact ⟨rfl, b1⟩
          · have e2 : decide ((x : Int) < 48) = false := by simp; omega
            have e3 : decide ((57 : Int) < (x : Int)) = true := by simp; omega
            clear hn hps
            go_wp2_with fail
            refine (unhide Hsm _).mono ?_
            rintro e w' ⟨rfl, rfl⟩
            go_wp2
            go_ret
            exact ⟨rfl, b1⟩
    · have hd : decide (j < xs.length) = false := by simpa using hlt
      have hX2 := unhide hX
      rw [List.drop_of_length_le (by omega)] at hX2
      have hR2 := unhide HR
      rw [hX2] at hR2
      have hR3 : (decide (1 ≤ xs.length) && decide (xs.length ≤ 12)) = R := by simpa [nameNums] using hR2
      have HR3 := hide hR3
      clear hX hX2 hR2 hR3
      cases d1 : decide ((1 : Int) ≤ (xs.length : Int)) <;> cases d2 : decide ((xs.length : Int) ≤ 12)
      all_goals
        go_wp2
        go_ret
        refine ⟨?_, b1⟩
        rw [← unhide HR3]
        simp only [decide_eq_true_eq, decide_eq_false_iff_not] at d1 d2
        simp
        omega
set_option maxHeartbeats 2000000 in
theorem rsays_calls (l : List UInt8) (hl : l.length ≤ 1000000000) (w : World) :
    Calls Try.prog 35 #[.string (str l)] w fun e w' => e = .returned (.bool (pSays l)) ∧ Below w.heap.size w w' := by
  have hnum := numbers_calls l hl
  have hlen := nums_le l
  have hat := nums_at l
  rw [pSays_nums]
  generalize nums l = xs at *
  generalize hR : (xs.all sayNum && decide (xs.length ≤ 64)) = R
  have HR := hide hR
  have Hnum := hide hnum
  have Hat := hide hat
  clear hnum hat hR
  go_enter Try.func35, Try.ntmps35
  go_wp2_with fail
  refine (unhide Hnum _).mono ?_
  rintro e w1 ⟨v, rfl, hN, b1⟩
  obtain ⟨p, cap, rfl, hp⟩ := hN
  have Hp := hide hp
  clear hp Hnum
  go_wp2
  go_loopw [10] (fun i wr => ∃ j : Nat, j ≤ xs.length ∧ i = .int .i64 (j : Int) ∧ Hid (xs.all sayNum = (xs.drop j).all sayNum) ∧ wr = w1) (fun i _ => xs.length - (intOf i).toNat)
  case atStart => exact ⟨0, by omega, rfl, rfl, rfl⟩
  case round =>
    obtain ⟨j, hj, rfl, hX, rfl⟩ := hrel
    by_cases hlt : j < xs.length
    · have hd : decide (j < xs.length) = true := by simpa using hlt
      have bk : (j : Int) < (xs.length : Int) := by omega
      obtain ⟨g, rfl, hg, hc⟩ := unhide Hp (by intro h0; rw [h0] at hlt; simp at hlt)
      have c := hc j hlt
      have hX2 := unhide hX
      rw [drop_consN xs j hlt, List.all_cons] at hX2
      generalize xs.getD j 0 = x at *
      cases hn : sayNum x with
      | true =>
        rw [hn, Bool.true_and] at hX2
        have HX2 := hide hX2
        have hx : 32 ≤ x ∧ x ≠ 127 ∧ x < 2000000 := by simp [sayNum] at hn; omega
        have e1 : decide ((x : Int) < 32) = false := by simp; omega
        have e2 : ((x : Int) == 127) = false := by simp; omega
        have e3 : decide ((2000000 : Int) ≤ (x : Int)) = false := by simp; omega
        clear hX2 hc hn hX
        go_wp2
        go_roundw
        case rel => exact ⟨j + 1, by omega, by go_num, HX2, trivial⟩
        case measure => simp [intOf]; omega
      | false =>
        rw [hn, Bool.false_and] at hX2
        have hRf : R = false := by rw [← unhide HR, hX2]; rfl
        subst hRf
        clear hX2 hc hX HR
        by_cases h32 : x < 32
        · have e1 : decide ((x : Int) < 32) = true := by simp; omega
          clear hn
          go_wp2
          go_ret
          exact ⟨rfl, b1⟩
        · have e1 : decide ((x : Int) < 32) = false := by simp; omega
          by_cases h127 : x = 127
          · have e2 : ((x : Int) == 127) = true := by simp; omega
            clear hn
            go_wp2
            go_ret
            exact ⟨rfl, b1⟩
          · have e2 : ((x : Int) == 127) = false := by simp; omega
            have e3 : decide ((2000000 : Int) ≤ (x : Int)) = true := by simp [sayNum] at hn; simp; omega
            clear hn
            go_wp2
            go_ret
            exact ⟨rfl, b1⟩
    · have hd : decide (j < xs.length) = false := by simpa using hlt
      have hX2 := unhide hX
      rw [List.drop_of_length_le (by omega)] at hX2
      have hR2 := unhide HR
      rw [hX2] at hR2
      have hR3 : decide (xs.length ≤ 64) = R := by simpa using hR2
      have HR3 := hide hR3
      clear hX hX2 hR2 hR3
      cases d1 : decide ((xs.length : Int) ≤ 64)
      all_goals
        go_wp2
        go_ret
        refine ⟨?_, b1⟩
        rw [← unhide HR3]
        simp only [decide_eq_true_eq, decide_eq_false_iff_not] at d1
        simp
        omega
end Go.Proofs.Ytlanplknendmaaa
