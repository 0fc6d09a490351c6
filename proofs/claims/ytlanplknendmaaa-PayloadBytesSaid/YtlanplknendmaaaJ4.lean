/-
  WHAT THE DOCUMENT'S OWN Count, Right, Says OF LAYER 2 RETURN: what name's own answer.
-/
/-
  WHAT THE DOCUMENT'S OWN Right, Says OF LAYER 2 RETURN: what name's own answer.
-/
/-
  THE DOCUMENT's OWN PAYLOADS (layer 11): Right, Bytes, Read.
-/
/-
  THE DOCUMENT's OWN READING OF A PAYLOAD (layer 11).
-/
/-
  PayloadBack: what is written is read as it was, what is read is written so. For every payload and every text.
-/
import Derived.Test.YtlanplknendmaaaJ3
import Derived.Test.YtlanplknendmaaaJ2
namespace Go.Proofs.Ytlanplknendmaaa
open Go.RowKit
set_option linter.unusedSimpArgs false
set_option linter.unusedVariables false

theorem good_mem : ∀ ts : List Tok, Good ts → ∀ t ∈ ts, (∃ r, t.1 = some r ∧ validRune r) ∨ ∃ b, t = (none, [b])
  | [], _, t, h => by cases h
  | t :: ts, ⟨h1, h2, h3⟩, x, hx => by
    rcases List.mem_cons.1 hx with rfl | hx
    · by_cases hs : x.1 = none
      · exact .inr (tok_none x _ h1 h2 hs)
      · left
        have hne : x.2 ++ flat ts ≠ [] := by simp [h1]
        have hnv : ¬ ((Lib.decodeL (x.2 ++ flat ts)).1 = 65533 ∧ (Lib.decodeL (x.2 ++ flat ts)).2 = 1) := by
          intro hc
          apply hs
          have := congrArg (·.1) h2
          simp only [headTok, if_pos hc] at this
          exact this.symm
        refine ⟨(Lib.decodeL (x.2 ++ flat ts)).1, ?_, dec_valid _ hne hnv⟩
        have := congrArg (·.1) h2
        simp only [headTok, if_neg hnv] at this
        exact this.symm
    · exact good_mem ts h3 x hx
theorem tk_mem (l : List UInt8) (t : Tok) (h : t ∈ tk l) : (∃ r, t.1 = some r ∧ r ≤ 1114111) ∨ ∃ b, t = (none, [b]) := by
  rcases good_mem _ (good_of_tk l) t h with ⟨r, h1, h2⟩ | h
  · exact .inl ⟨r, h1, by unfold validRune at h2; omega⟩
  · exact .inr h
theorem tokNum_some (t : Tok) (r : Nat) (h : t.1 = some r) : tokNum t = r := by unfold tokNum; rw [h]
theorem tokNum_none (b : UInt8) : tokNum (none, [b]) = 2000000 + b.toNat := rfl
theorem tokNum_lt (l : List UInt8) (t : Tok) (h : t ∈ tk l) : decide (tokNum t < 2000000) = t.1.isSome ∧ tokNum t < 2000256 := by
  rcases tk_mem l t h with ⟨r, h1, h2⟩ | ⟨b, rfl⟩
  · rw [tokNum_some t r h1, h1]; simp; omega
  · rw [tokNum_none]; have := b.toNat_lt; simp; omega
theorem pRunes_nums (l : List UInt8) : pRunes l = ((nums l).filter fun n => decide (n < 2000000)).length := by
  rw [pRunes_tok, nums, List.filter_map, List.length_map]
  congr 1
  apply List.filter_congr
  intro t ht
  exact (tokNum_lt l t ht).1.symm
theorem pStrays_nums (l : List UInt8) : pStrays l = ((nums l).filter fun n => !decide (n < 2000000)).length := by
  rw [pStrays_tok, nums, List.filter_map, List.length_map]
  congr 1
  apply List.filter_congr
  intro t ht
  have := (tokNum_lt l t ht).1
  simp only [Function.comp_apply, this]
  cases t.1 <;> rfl
def nameNums : Nat → List Nat → Bool
  | _, [] => true
  | i, n :: ns => nameRune i n && nameNums (i + 1) ns
theorem nameToks_nums (l : List UInt8) : ∀ (ts : List Tok) (i : Nat), (∀ t ∈ ts, t ∈ tk l) → nameToks i ts = nameNums i (ts.map tokNum)
  | [], i, _ => rfl
  | t :: ts, i, h => by
    rw [List.map_cons]
    unfold nameToks nameNums
    rw [nameToks_nums l ts (i + 1) (fun x hx => h x (by simp [hx]))]
    congr 1
    rcases tk_mem l t (h t (by simp)) with ⟨r, h1, h2⟩ | ⟨b, rfl⟩
    · rw [tokNum_some t r h1]; unfold nameTok; rw [h1]
    · rw [tokNum_none]
      have := b.toNat_lt
      simp [nameTok, nameRune, pSmall, pDigit]
      omega
theorem pRight_nums (l : List UInt8) : pRight l = (nameNums 0 (nums l) && (decide (1 ≤ (nums l).length) && decide ((nums l).length ≤ 12))) := by
  rw [pRight_tok, nameToks_nums l _ 0 (fun _ h => h), nums_len]; rfl
def sayNum (n : Nat) : Bool := !decide (n < 32) && (!(n == 127) && decide (n < 2000000))
theorem pSays_nums (l : List UInt8) : pSays l = ((nums l).all sayNum && decide ((nums l).length ≤ 64)) := by
  rw [pSays_tok, nums_len]
  congr 1
  unfold nums
  rw [List.all_map]
  rw [Bool.eq_iff_iff, List.all_eq_true, List.all_eq_true]
  have key : ∀ t ∈ tk l, sayTok t = sayNum (tokNum t) := fun t ht => by
    rcases tk_mem l t ht with ⟨r, h1, h2⟩ | ⟨b, rfl⟩
    · rw [tokNum_some t r h1]; unfold sayTok sayNum; rw [h1]
      have : decide (r < 2000000) = true := by simp; omega
      simp [this]
    · rw [tokNum_none]
      have := b.toNat_lt
      simp [sayTok, sayNum]
  constructor
  · intro h t ht; show sayNum (tokNum t) = true; rw [← key t ht]; exact h t ht
  · intro h t ht; rw [key t ht]; exact h t ht
theorem nums_at (l : List UInt8) (j : Nat) (hj : j < (nums l).length) : (nums l).getD j 0 < 2000256 := by
  have : (nums l).getD j 0 ∈ nums l := by
    rw [List.getD_eq_getElem?_getD, List.getElem?_eq_getElem hj]; exact List.getElem_mem _
  unfold nums at this
  obtain ⟨t, ht, he⟩ := List.mem_map.1 this
  unfold nums
  rw [← he]; exact (tokNum_lt l t ht).2
end Go.Proofs.Ytlanplknendmaaa

namespace Go.Proofs.Ytlanplknendmaaa
open Go.RowKit
set_option linter.unusedSimpArgs false
set_option linter.unusedVariables false

theorem rsmall_calls (r : Nat) (w : World) :
    Calls Try.prog 54 #[.int .i64 (r : Int)] w fun e w' => e = .returned (.bool (pSmall r)) ∧ w' = w := by
  cases d1 : decide ((97 : Int) ≤ (r : Int)) <;> cases d2 : decide ((r : Int) ≤ 122) <;> cases d3 : decide ((945 : Int) ≤ (r : Int)) <;> cases d4 : decide ((r : Int) ≤ 969)
  all_goals
    generalize hp : pSmall r = p
    have Hp := hide hp
    clear hp
    go_enter Try.func54, Try.ntmps54
    go_wp2
    go_ret
    refine ⟨?_, rfl⟩
    rw [← unhide Hp]
    simp only [decide_eq_true_eq, decide_eq_false_iff_not] at d1 d2 d3 d4
    simp [pSmall]
    omega
theorem drop_consN (l : List Nat) (k : Nat) (h : k < l.length) : l.drop k = l.getD k 0 :: l.drop (k + 1) := by
  rw [List.drop_eq_getElem_cons h, List.getD_eq_getElem?_getD, List.getElem?_eq_getElem h]; rfl
theorem nameNums_drop (xs : List Nat) (i j : Nat) (h : j < xs.length) : nameNums i (xs.drop j) = (nameRune i (xs.getD j 0) && nameNums (i + 1) (xs.drop (j + 1))) := by
  rw [drop_consN xs j h]; rfl
set_option maxHeartbeats 2000000 in
theorem rright_calls (l : List UInt8) (hl : l.length ≤ 1000000000) (w : World) :
    Calls Try.prog 34 #[.string (str l)] w fun e w' => e = .returned (.bool (pRight l)) ∧ Below w.heap.size w w' := by
  have hnum := numbers_calls l hl
  have hlen := nums_le l
  have hat := nums_at l
  rw [pRight_nums]
  generalize nums l = xs at *
  generalize hR : (nameNums 0 xs && (decide (1 ≤ xs.length) && decide (xs.length ≤ 12))) = R
  have HR := hide hR
  have Hnum := hide hnum
  have Hat := hide hat
  clear hnum hat hR
  go_enter Try.func34, Try.ntmps34
  go_wp2_with fail
  refine (unhide Hnum _).mono ?_
  rintro e w1 ⟨v, rfl, hN, b1⟩
  obtain ⟨p, cap, rfl, hp⟩ := hN
  have Hp := hide hp
  clear hp Hnum
  go_wp2
  go_loopw [10] (fun i wr => ∃ j : Nat, j ≤ xs.length ∧ i = .int .i64 (j : Int) ∧ Hid (nameNums 0 xs = nameNums j (xs.drop j)) ∧ wr = w1) (fun i _ => xs.length - (intOf i).toNat)
  case atStart => exact ⟨0, by omega, rfl, rfl, rfl⟩
  case round =>
    obtain ⟨j, hj, rfl, hX, rfl⟩ := hrel
    by_cases hlt : j < xs.length
    · have hd : decide (j < xs.length) = true := by simpa using hlt
      have bk : (j : Int) < (xs.length : Int) := by omega
      obtain ⟨g, rfl, hg, hc⟩ := unhide Hp (by intro h0; rw [h0] at hlt; simp at hlt)
      have c := hc j hlt
      have hX2 := unhide hX
      rw [nameNums_drop xs j j hlt] at hX2
      generalize xs.getD j 0 = x at *
      have hsm := rsmall_calls x
      cases hn : nameRune j x with
      | true =>
        rw [hn, Bool.true_and] at hX2
        have HX2 := hide hX2
        by_cases hps : pSmall x = true
        · rw [hps] at hsm
          have Hsm := hide hsm
          clear hsm hX2 hc hn hX hps
          go_wp2_with fail
          refine (unhide Hsm _).mono ?_
          rintro e w' ⟨rfl, rfl⟩
          go_wp2
          go_roundw
          case rel => exact ⟨j + 1, by omega, by go_num, HX2, trivial⟩
          case measure => simp [intOf]; omega
        · have hps' : pSmall x = false := by simpa using hps
          rw [hps'] at hsm
          have hjx : j ≠ 0 ∧ 48 ≤ x ∧ x ≤ 57 := by
            simp [nameRune, hps', pDigit] at hn; omega
          have e1 : ((j : Int) == 0) = false := by simp; omega
          have e2 : decide ((x : Int) < 48) = false := by simp; omega
          have e3 : decide ((57 : Int) < (x : Int)) = false := by simp; omega
          have e4 : (j == 0) = false := by simp; omega
          have Hsm := hide hsm
          clear hsm hX2 hc hn hX hps
          go_wp2_with fail
          refine (unhide Hsm _).mono ?_
          rintro e w' ⟨rfl, rfl⟩
          go_wp2
          go_roundw
          case rel => exact ⟨j + 1, by omega, by go_num, HX2, trivial⟩
          case measure => simp [intOf]; omega
      | false =>
        rw [hn, Bool.false_and] at hX2
        have hRf : R = false := by rw [← unhide HR, hX2]; rfl
        subst hRf
        have hps : pSmall x = false := by
          cases hp : pSmall x with
          | false => rfl
          | true => simp [nameRune, hp] at hn
        rw [hps] at hsm
        have Hsm := hide hsm
        clear hsm hX2 hc hX HR
        by_cases hj0 : j = 0
        · have e1 : (j == 0) = true := by simpa using hj0
          have e1' : ((j : Int) == 0) = true := by simp; omega
          clear hn hps hj0
          go_wp2_with fail
          refine (unhide Hsm _).mono ?_
          rintro e w' ⟨rfl, rfl⟩
          go_wp2
          go_ret
          exact ⟨rfl, b1⟩
        · have e1 : (j == 0) = false := by simpa using hj0
          have e1' : ((j : Int) == 0) = false := by simp; omega
          have hdg : ¬ (48 ≤ x ∧ x ≤ 57) := by
            simp [nameRune, hps, pDigit, hj0] at hn; omega
          by_cases h48 : x < 48
          · have e2 : decide ((x : Int) < 48) = true := by simp; omega
            clear hn hps
            go_wp2_with fail
            refine (unhide Hsm _).mono ?_
            rintro e w' ⟨rfl, rfl⟩
            go_wp2
            go_ret
            exact ⟨rfl, b1⟩
          · have e2 : decide ((x : Int) < 48) = false := by simp; omega
            have e3 : decide ((57 : Int) < (x : Int)) = true := by simp; omega
            clear hn hps
            go_wp2_with fail
            refine (unhide Hsm _).mono ?_
            rintro e w' ⟨rfl, rfl⟩
            go_wp2
            go_ret
            exact ⟨rfl, b1⟩
    · have hd : decide (j < xs.length) = false := by simpa using hlt
      have hX2 := unhide hX
      rw [List.drop_of_length_le (by omega)] at hX2
      have hR2 := unhide HR
      rw [hX2] at hR2
      have hR3 : (decide (1 ≤ xs.length) && decide (xs.length ≤ 12)) = R := by simpa [nameNums] using hR2
      have HR3 := hide hR3
      clear hX hX2 hR2 hR3
      cases d1 : decide ((1 : Int) ≤ (xs.length : Int)) <;> cases d2 : decide ((xs.length : Int) ≤ 12)
      all_goals
        go_wp2
        go_ret
        refine ⟨?_, b1⟩
        rw [← unhide HR3]
        simp only [decide_eq_true_eq, decide_eq_false_iff_not] at d1 d2
        simp
        omega
set_option maxHeartbeats 2000000 in
theorem rsays_calls (l : List UInt8) (hl : l.length ≤ 1000000000) (w : World) :
    Calls Try.prog 35 #[.string (str l)] w fun e w' => e = .returned (.bool (pSays l)) ∧ Below w.heap.size w w' := by
  have hnum := numbers_calls l hl
  have hlen := nums_le l
  have hat := nums_at l
  rw [pSays_nums]
  generalize nums l = xs at *
  generalize hR : (xs.all sayNum && decide (xs.length ≤ 64)) = R
  have HR := hide hR
  have Hnum := hide hnum
  have Hat := hide hat
  clear hnum hat hR
  go_enter Try.func35, Try.ntmps35
  go_wp2_with fail
  refine (unhide Hnum _).mono ?_
  rintro e w1 ⟨v, rfl, hN, b1⟩
  obtain ⟨p, cap, rfl, hp⟩ := hN
  have Hp := hide hp
  clear hp Hnum
  go_wp2
  go_loopw [10] (fun i wr => ∃ j : Nat, j ≤ xs.length ∧ i = .int .i64 (j : Int) ∧ Hid (xs.all sayNum = (xs.drop j).all sayNum) ∧ wr = w1) (fun i _ => xs.length - (intOf i).toNat)
  case atStart => exact ⟨0, by omega, rfl, rfl, rfl⟩
  case round =>
    obtain ⟨j, hj, rfl, hX, rfl⟩ := hrel
    by_cases hlt : j < xs.length
    · have hd : decide (j < xs.length) = true := by simpa using hlt
      have bk : (j : Int) < (xs.length : Int) := by omega
      obtain ⟨g, rfl, hg, hc⟩ := unhide Hp (by intro h0; rw [h0] at hlt; simp at hlt)
      have c := hc j hlt
      have hX2 := unhide hX
      rw [drop_consN xs j hlt, List.all_cons] at hX2
      generalize xs.getD j 0 = x at *
      cases hn : sayNum x with
      | true =>
        rw [hn, Bool.true_and] at hX2
        have HX2 := hide hX2
        have hx : 32 ≤ x ∧ x ≠ 127 ∧ x < 2000000 := by simp [sayNum] at hn; omega
        have e1 : decide ((x : Int) < 32) = false := by simp; omega
        have e2 : ((x : Int) == 127) = false := by simp; omega
        have e3 : decide ((2000000 : Int) ≤ (x : Int)) = false := by simp; omega
        clear hX2 hc hn hX
        go_wp2
        go_roundw
        case rel => exact ⟨j + 1, by omega, by go_num, HX2, trivial⟩
        case measure => simp [intOf]; omega
      | false =>
        rw [hn, Bool.false_and] at hX2
        have hRf : R = false := by rw [← unhide HR, hX2]; rfl
        subst hRf
        clear hX2 hc hX HR
        by_cases h32 : x < 32
        · have e1 : decide ((x : Int) < 32) = true := by simp; omega
          clear hn
          go_wp2
          go_ret
          exact ⟨rfl, b1⟩
        · have e1 : decide ((x : Int) < 32) = false := by simp; omega
          by_cases h127 : x = 127
          · have e2 : ((x : Int) == 127) = true := by simp; omega
            clear hn
            go_wp2
            go_ret
            exact ⟨rfl, b1⟩
          · have e2 : ((x : Int) == 127) = false := by simp; omega
            have e3 : decide ((2000000 : Int) ≤ (x : Int)) = true := by simp [sayNum] at hn; simp; omega
            clear hn
            go_wp2
            go_ret
            exact ⟨rfl, b1⟩
    · have hd : decide (j < xs.length) = false := by simpa using hlt
      have hX2 := unhide hX
      rw [List.drop_of_length_le (by omega)] at hX2
      have hR2 := unhide HR
      rw [hX2] at hR2
      have hR3 : decide (xs.length ≤ 64) = R := by simpa using hR2
      have HR3 := hide hR3
      clear hX hX2 hR2 hR3
      cases d1 : decide ((xs.length : Int) ≤ 64)
      all_goals
        go_wp2
        go_ret
        refine ⟨?_, b1⟩
        rw [← unhide HR3]
        simp only [decide_eq_true_eq, decide_eq_false_iff_not] at d1
        simp
        omega
end Go.Proofs.Ytlanplknendmaaa

namespace Go.Proofs.Ytlanplknendmaaa
open Go.RowKit
set_option linter.unusedSimpArgs false
set_option linter.unusedVariables false

set_option maxRecDepth 100000 in
theorem fright_calls (p : Pl) (hp : p.most 1000000000) (w : World) :
    Calls Try.prog 16 #[.agg p.fl.cells] w fun e w' => e = .returned (.bool p.right) ∧ Below w.heap.size w w' := by
  have hb0 := (Below.refl w.heap.size w).alloc (Nat.le_refl _) (.cells p.fl.cells 29)
  cases p with
  | no =>
    simp only [Pl.right]
    unfold Pl.fl Fl.zero Fl.cells at *
    simp only at *
    go_enter Try.func16, Try.ntmps16
    go_wp2
    go_ret
    exact ⟨rfl, hb0⟩
  | num =>
    simp only [Pl.right]
    unfold Pl.fl Fl.zero Fl.cells at *
    simp only at *
    go_enter Try.func16, Try.ntmps16
    go_wp2
    go_ret
    exact ⟨rfl, hb0⟩
  | tr o a b n =>
    simp only [Pl.right]
    unfold Pl.fl Fl.cells at *
    simp only at *
    have k1 := hide fun W => rright_calls a hp.1 W
    have k2 := hide fun W => rright_calls b hp.2 W
    generalize pRight a = x at *
    generalize pRight b = y at *
    have hn : (decide ((0 : Int) < (n : Int)) = !decide (n = 0)) := by
      by_cases h : n = 0
      · subst h; rfl
      · have : decide ((0 : Int) < (n : Int)) = true := by simp; omega
        rw [this]; simp [h]
    clear hp
    go_enter Try.func16, Try.ntmps16
    go_wp2_with fail
    refine (unhide k1 _).mono ?_
    rintro e w1 ⟨rfl, b1⟩
    obtain ⟨c1, -, z1, -⟩ := alloc_kept b1
    have hb1 := hb0.trans (b1.mono (by simp))
    have d1 := c1 3
    have d2 := c1 4
    simp only [List.getElem?_toArray, List.getElem?_cons_succ, List.getElem?_cons_zero] at d1 d2
    clear c1 b1 hb0 k1
    cases x with
    | false =>
      go_wp2_with fail
      go_ret
      exact ⟨rfl, hb1⟩
    | true =>
      go_wp2_with fail
      refine (unhide k2 _).mono ?_
      rintro e w2 ⟨rfl, b2⟩
      have d3 := ((bcell b2).1 w.heap.size 4 z1).trans d2
      have hb2 := hb1.trans (b2.mono (Nat.le_of_lt z1))
      clear d1 d2
      cases y with
      | false =>
        go_wp2_with fail
        go_ret
        exact ⟨rfl, hb2⟩
      | true =>
        go_wp2_with fail
        go_ret
        exact ⟨by simp; by_cases h : n = 0 <;> simp [h]; omega, hb2⟩
  | sa a b =>
    simp only [Pl.right]
    unfold Pl.fl Fl.cells at *
    simp only at *
    have k1 := hide fun W => rright_calls a hp.1 W
    have k2 := hide fun W => rsays_calls b hp.2 W
    generalize pRight a = x at *
    generalize pSays b = y at *
    clear hp
    go_enter Try.func16, Try.ntmps16
    go_wp2_with fail
    refine (unhide k1 _).mono ?_
    rintro e w1 ⟨rfl, b1⟩
    obtain ⟨c1, -, z1, -⟩ := alloc_kept b1
    have hb1 := hb0.trans (b1.mono (by simp))
    have d1 := c1 3
    simp only [List.getElem?_toArray, List.getElem?_cons_succ, List.getElem?_cons_zero] at d1
    clear c1 b1 hb0 k1
    cases x with
    | false =>
      go_wp2_with fail
      go_ret
      exact ⟨rfl, hb1⟩
    | true =>
      go_wp2_with fail
      refine (unhide k2 _).mono ?_
      rintro e w2 ⟨rfl, b2⟩
      have hb2 := hb1.trans (b2.mono (Nat.le_of_lt z1))
      go_wp2_with fail
      go_ret
      exact ⟨rfl, hb2⟩
  | de o a n =>
    simp only [Pl.right]
    unfold Pl.fl Fl.cells at *
    simp only at *
    have k1 := hide fun W => rright_calls a hp W
    generalize pRight a = x at *
    clear hp
    go_enter Try.func16, Try.ntmps16
    go_wp2_with fail
    refine (unhide k1 _).mono ?_
    rintro e w1 ⟨rfl, b1⟩
    have hb1 := hb0.trans (b1.mono (by simp))
    go_wp2_with fail
    go_ret
    exact ⟨rfl, hb1⟩
set_option maxHeartbeats 2000000 in
set_option maxRecDepth 100000 in
theorem fbytes_calls (p : Pl) (ok : p.ok) (hp : p.most 1000000000) (w : World) :
    Calls Try.prog 11 #[.agg p.fl.cells] w fun e w' => e = .returned (.tuple #[.string (str p.bytes.1), .int .i64 p.bytes.2]) ∧ Below w.heap.size w w' := by
  have hb0 := (Below.refl w.heap.size w).alloc (Nat.le_refl _) (.cells p.fl.cells 29)
  have q0 := al1 w (.cells p.fl.cells 29)
  have fi := fl_info p.fl
  have kR := fun W => fright_calls p hp W
  unfold Pl.bytes
  cases p with
  | no =>
    simp only [Pl.tag, if_true]
    unfold Pl.fl Fl.zero Fl.cells at *
    simp only at *
    clear kR
    go_enter Try.func11, Try.ntmps11
    go_wp2
    go_ret2
    exact ⟨rfl, hb0⟩
  | num =>
    simp only [Pl.tag, if_true]
    unfold Pl.fl Fl.zero Fl.cells at *
    simp only at *
    clear kR
    go_enter Try.func11, Try.ntmps11
    go_wp2
    go_ret2
    exact ⟨rfl, hb0⟩
  | tr o a b n =>
    obtain ⟨R, hR⟩ : ∃ R, (Pl.tr o a b n).right = R := ⟨_, rfl⟩
    simp only [Pl.tag, hR, Pl.fields]
    rw [hR] at kR
    rw [if_neg (by decide)]
    have ok1 := ok.1
    have ok2 := ok.2
    have hp1 := hp.1
    have hp2 := hp.2
    have L0 := pBig_length 1 1
    have g0 := hide fun W => rbig_calls 1 1 (by decide) (by decide) (by decide) W
    have L1 := pBig_length o 4
    have g1 := hide fun W => rbig_calls o 4 (by omega) (by decide) (by decide) W
    have L2 := pText4_length a
    have g2 := hide fun W => rtext3_calls a (by omega) W
    have L3 := pText4_length b
    have g3 := hide fun W => rtext3_calls b (by omega) W
    have L4 := pBig_length n 8
    have g4 := hide fun W => rbig_calls n 8 (by omega) (by decide) (by decide) W
    have fC : Hid ((Pl.tr o a b n).fl.cells = #[.int .i64 1, .int .u32 (o : Int), .string (str a), .string (str b), .int .u64 (n : Int)]) := rfl
    generalize (Pl.tr o a b n).fl.cells = C at *
    have fC := unhide fC
    generalize pBig 1 1 = P0 at *
    generalize pBig o 4 = P1 at *
    generalize pText4 a = P2 at *
    generalize pText4 b = P3 at *
    generalize pBig n 8 = P4 at *
    have a1 := append_str P0 P1
    have n1 : ¬ 9223372036854775807 < P0.length + P1.length := by omega
    have a2 : str (P0 ++ P1) ++ str P2 = str (P0 ++ (P1 ++ P2)) := by rw [append_str]; simp
    have n2 : ¬ 9223372036854775807 < P0.length + P1.length + P2.length := by omega
    have a3 : str (P0 ++ (P1 ++ P2)) ++ str P3 = str (P0 ++ (P1 ++ (P2 ++ P3))) := by rw [append_str]; simp
    have n3 : ¬ 9223372036854775807 < P0.length + (P1.length + P2.length) + P3.length := by omega
    have a4 : str (P0 ++ (P1 ++ (P2 ++ P3))) ++ str P4 = str (P0 ++ (P1 ++ (P2 ++ (P3 ++ P4)))) := by rw [append_str]; simp
    have n4 : ¬ 9223372036854775807 < P0.length + (P1.length + (P2.length + P3.length)) + P4.length := by omega
    clear L0 L1 L2 L3 L4 ok hp ok2 hp1 hp2 hR
    have KR := hide kR
    clear kR
    have CF : Hid (∀ W : World, W.heap[w.heap.size]? = some (.cells C 29 (0, 0)) → W.cell? ⟨w.heap.size, 0, none⟩ = some (.int .i64 1) ∧ W.cell? ⟨w.heap.size, 1, none⟩ = some (.int .u32 (o : Int)) ∧ W.cell? ⟨w.heap.size, 2, none⟩ = some (.string (str a)) ∧ W.cell? ⟨w.heap.size, 3, none⟩ = some (.string (str b)) ∧ W.cell? ⟨w.heap.size, 4, none⟩ = some (.int .u64 (n : Int))) := fun W hW => by
      rw [fC] at hW
      exact ⟨(sig_cell hW).1 0 _ rfl, (sig_cell hW).1 1 _ rfl, (sig_cell hW).1 2 _ rfl, (sig_cell hW).1 3 _ rfl, (sig_cell hW).1 4 _ rfl⟩
    clear fC
    have z0 := (Array.getElem?_eq_some_iff.1 q0).1
    obtain ⟨c0, c1, c2, c3, c4⟩ := unhide CF _ q0
    go_enter Try.func11, Try.ntmps11
    go_wp2_with (refine wpList_load_row rfl 29 (.tmp 1) rfl w.heap.size rfl 29 C (0, 0) _ q0 Try.underlying29 rfl fi ?_)
    refine (unhide KR _).mono ?_
    rintro e w1 ⟨rfl, b1⟩
    have q1 := Below.at b1 z0 q0
    have hb1 := hb0.trans (b1.mono hb0.size)
    clear c0 c1 c2 c3 c4 q0 hb0 b1 z0
    cases R with
    | false =>
      go_wp2_with fail
      go_ret2
      exact ⟨rfl, hb1⟩
    | true =>
      obtain ⟨c0, c1, c2, c3, c4⟩ := unhide CF _ q1
      go_wp2_with fail
      refine (unhide g0 _).mono ?_
      rintro e w2' ⟨rfl, b2⟩
      have q2 := Below.at b2 (Array.getElem?_eq_some_iff.1 q1).1 q1
      have hb2 := hb1.trans (b2.mono hb1.size)
      clear c0 c1 c2 c3 c4 q1 hb1 b2 g0
      obtain ⟨c0, c1, c2, c3, c4⟩ := unhide CF _ q2
      go_wp2_with fail
      refine (unhide g1 _).mono ?_
      rintro e w3' ⟨rfl, b3⟩
      have q3 := Below.at b3 (Array.getElem?_eq_some_iff.1 q2).1 q2
      have hb3 := hb2.trans (b3.mono hb2.size)
      clear c0 c1 c2 c3 c4 q2 hb2 b3 g1
      obtain ⟨c0, c1, c2, c3, c4⟩ := unhide CF _ q3
      go_wp2_with fail
      refine (unhide g2 _).mono ?_
      rintro e w4' ⟨rfl, b4⟩
      have q4 := Below.at b4 (Array.getElem?_eq_some_iff.1 q3).1 q3
      have hb4 := hb3.trans (b4.mono hb3.size)
      clear c0 c1 c2 c3 c4 q3 hb3 b4 g2
      obtain ⟨c0, c1, c2, c3, c4⟩ := unhide CF _ q4
      go_wp2_with fail
      refine (unhide g3 _).mono ?_
      rintro e w5' ⟨rfl, b5⟩
      have q5 := Below.at b5 (Array.getElem?_eq_some_iff.1 q4).1 q4
      have hb5 := hb4.trans (b5.mono hb4.size)
      clear c0 c1 c2 c3 c4 q4 hb4 b5 g3
      obtain ⟨c0, c1, c2, c3, c4⟩ := unhide CF _ q5
      go_wp2_with fail
      refine (unhide g4 _).mono ?_
      rintro e w6' ⟨rfl, b6⟩
      have q6 := Below.at b6 (Array.getElem?_eq_some_iff.1 q5).1 q5
      have hb6 := hb5.trans (b6.mono hb5.size)
      clear c0 c1 c2 c3 c4 q5 hb5 b6 g4
      obtain ⟨c0, c1, c2, c3, c4⟩ := unhide CF _ q6
      go_wp2_with fail
      go_ret2
      exact ⟨by first | rfl | simp, hb6⟩
  | sa a b =>
    obtain ⟨R, hR⟩ : ∃ R, (Pl.sa a b).right = R := ⟨_, rfl⟩
    simp only [Pl.tag, hR, Pl.fields]
    rw [hR] at kR
    rw [if_neg (by decide)]
    have hp1 := hp.1
    have hp2 := hp.2
    have L0 := pBig_length 2 1
    have g0 := hide fun W => rbig_calls 2 1 (by decide) (by decide) (by decide) W
    have L1 := pText4_length a
    have g1 := hide fun W => rtext3_calls a (by omega) W
    have L2 := pText4_length b
    have g2 := hide fun W => rtext3_calls b (by omega) W
    have fC : Hid ((Pl.sa a b).fl.cells = #[.int .i64 2, .int .u32 ((0 : Nat) : Int), .string (str a), .string (str b), .int .u64 ((0 : Nat) : Int)]) := rfl
    generalize (Pl.sa a b).fl.cells = C at *
    have fC := unhide fC
    generalize pBig 2 1 = P0 at *
    generalize pText4 a = P1 at *
    generalize pText4 b = P2 at *
    have a1 := append_str P0 P1
    have n1 : ¬ 9223372036854775807 < P0.length + P1.length := by omega
    have a2 : str (P0 ++ P1) ++ str P2 = str (P0 ++ (P1 ++ P2)) := by rw [append_str]; simp
    have n2 : ¬ 9223372036854775807 < P0.length + P1.length + P2.length := by omega
    clear L0 L1 L2 ok hp hp1 hp2 hR
    have KR := hide kR
    clear kR
    have CF : Hid (∀ W : World, W.heap[w.heap.size]? = some (.cells C 29 (0, 0)) → W.cell? ⟨w.heap.size, 0, none⟩ = some (.int .i64 2) ∧ W.cell? ⟨w.heap.size, 2, none⟩ = some (.string (str a)) ∧ W.cell? ⟨w.heap.size, 3, none⟩ = some (.string (str b))) := fun W hW => by
      rw [fC] at hW
      exact ⟨(sig_cell hW).1 0 _ rfl, (sig_cell hW).1 2 _ rfl, (sig_cell hW).1 3 _ rfl⟩
    clear fC
    have z0 := (Array.getElem?_eq_some_iff.1 q0).1
    obtain ⟨c0, c2, c3⟩ := unhide CF _ q0
    go_enter Try.func11, Try.ntmps11
    go_wp2_with (refine wpList_load_row rfl 29 (.tmp 1) rfl w.heap.size rfl 29 C (0, 0) _ q0 Try.underlying29 rfl fi ?_)
    refine (unhide KR _).mono ?_
    rintro e w1 ⟨rfl, b1⟩
    have q1 := Below.at b1 z0 q0
    have hb1 := hb0.trans (b1.mono hb0.size)
    clear c0 c2 c3 q0 hb0 b1 z0
    cases R with
    | false =>
      go_wp2_with fail
      go_ret2
      exact ⟨rfl, hb1⟩
    | true =>
      obtain ⟨c0, c2, c3⟩ := unhide CF _ q1
      go_wp2_with fail
      refine (unhide g0 _).mono ?_
      rintro e w2' ⟨rfl, b2⟩
      have q2 := Below.at b2 (Array.getElem?_eq_some_iff.1 q1).1 q1
      have hb2 := hb1.trans (b2.mono hb1.size)
      clear c0 c2 c3 q1 hb1 b2 g0
      obtain ⟨c0, c2, c3⟩ := unhide CF _ q2
      go_wp2_with fail
      refine (unhide g1 _).mono ?_
      rintro e w3' ⟨rfl, b3⟩
      have q3 := Below.at b3 (Array.getElem?_eq_some_iff.1 q2).1 q2
      have hb3 := hb2.trans (b3.mono hb2.size)
      clear c0 c2 c3 q2 hb2 b3 g1
      obtain ⟨c0, c2, c3⟩ := unhide CF _ q3
      go_wp2_with fail
      refine (unhide g2 _).mono ?_
      rintro e w4' ⟨rfl, b4⟩
      have q4 := Below.at b4 (Array.getElem?_eq_some_iff.1 q3).1 q3
      have hb4 := hb3.trans (b4.mono hb3.size)
      clear c0 c2 c3 q3 hb3 b4 g2
      obtain ⟨c0, c2, c3⟩ := unhide CF _ q4
      go_wp2_with fail
      go_ret2
      exact ⟨by first | rfl | simp, hb4⟩
  | de o a n =>
    obtain ⟨R, hR⟩ : ∃ R, (Pl.de o a n).right = R := ⟨_, rfl⟩
    simp only [Pl.tag, hR, Pl.fields]
    rw [hR] at kR
    rw [if_neg (by decide)]
    have ok1 := ok.1
    have ok2 := ok.2
    have hp1 : a.length ≤ 1000000000 := hp
    have L0 := pBig_length 3 1
    have g0 := hide fun W => rbig_calls 3 1 (by decide) (by decide) (by decide) W
    have L1 := pBig_length o 4
    have g1 := hide fun W => rbig_calls o 4 (by omega) (by decide) (by decide) W
    have L2 := pText4_length a
    have g2 := hide fun W => rtext3_calls a (by omega) W
    have L3 := pBig_length n 8
    have g3 := hide fun W => rbig_calls n 8 (by omega) (by decide) (by decide) W
    have fC : Hid ((Pl.de o a n).fl.cells = #[.int .i64 3, .int .u32 (o : Int), .string (str a), .string (str []), .int .u64 (n : Int)]) := rfl
    generalize (Pl.de o a n).fl.cells = C at *
    have fC := unhide fC
    generalize pBig 3 1 = P0 at *
    generalize pBig o 4 = P1 at *
    generalize pText4 a = P2 at *
    generalize pBig n 8 = P3 at *
    have a1 := append_str P0 P1
    have n1 : ¬ 9223372036854775807 < P0.length + P1.length := by omega
    have a2 : str (P0 ++ P1) ++ str P2 = str (P0 ++ (P1 ++ P2)) := by rw [append_str]; simp
    have n2 : ¬ 9223372036854775807 < P0.length + P1.length + P2.length := by omega
    have a3 : str (P0 ++ (P1 ++ P2)) ++ str P3 = str (P0 ++ (P1 ++ (P2 ++ P3))) := by rw [append_str]; simp
    have n3 : ¬ 9223372036854775807 < P0.length + (P1.length + P2.length) + P3.length := by omega
    clear L0 L1 L2 L3 ok hp ok2 hp1 hR
    have KR := hide kR
    clear kR
    have CF : Hid (∀ W : World, W.heap[w.heap.size]? = some (.cells C 29 (0, 0)) → W.cell? ⟨w.heap.size, 0, none⟩ = some (.int .i64 3) ∧ W.cell? ⟨w.heap.size, 1, none⟩ = some (.int .u32 (o : Int)) ∧ W.cell? ⟨w.heap.size, 2, none⟩ = some (.string (str a)) ∧ W.cell? ⟨w.heap.size, 4, none⟩ = some (.int .u64 (n : Int))) := fun W hW => by
      rw [fC] at hW
      exact ⟨(sig_cell hW).1 0 _ rfl, (sig_cell hW).1 1 _ rfl, (sig_cell hW).1 2 _ rfl, (sig_cell hW).1 4 _ rfl⟩
    clear fC
    have z0 := (Array.getElem?_eq_some_iff.1 q0).1
    obtain ⟨c0, c1, c2, c4⟩ := unhide CF _ q0
    go_enter Try.func11, Try.ntmps11
    go_wp2_with (refine wpList_load_row rfl 29 (.tmp 1) rfl w.heap.size rfl 29 C (0, 0) _ q0 Try.underlying29 rfl fi ?_)
    refine (unhide KR _).mono ?_
    rintro e w1 ⟨rfl, b1⟩
    have q1 := Below.at b1 z0 q0
    have hb1 := hb0.trans (b1.mono hb0.size)
    clear c0 c1 c2 c4 q0 hb0 b1 z0
    cases R with
    | false =>
      go_wp2_with fail
      go_ret2
      exact ⟨rfl, hb1⟩
    | true =>
      obtain ⟨c0, c1, c2, c4⟩ := unhide CF _ q1
      go_wp2_with fail
      refine (unhide g0 _).mono ?_
      rintro e w2' ⟨rfl, b2⟩
      have q2 := Below.at b2 (Array.getElem?_eq_some_iff.1 q1).1 q1
      have hb2 := hb1.trans (b2.mono hb1.size)
      clear c0 c1 c2 c4 q1 hb1 b2 g0
      obtain ⟨c0, c1, c2, c4⟩ := unhide CF _ q2
      go_wp2_with fail
      refine (unhide g1 _).mono ?_
      rintro e w3' ⟨rfl, b3⟩
      have q3 := Below.at b3 (Array.getElem?_eq_some_iff.1 q2).1 q2
      have hb3 := hb2.trans (b3.mono hb2.size)
      clear c0 c1 c2 c4 q2 hb2 b3 g1
      obtain ⟨c0, c1, c2, c4⟩ := unhide CF _ q3
      go_wp2_with fail
      refine (unhide g2 _).mono ?_
      rintro e w4' ⟨rfl, b4⟩
      have q4 := Below.at b4 (Array.getElem?_eq_some_iff.1 q3).1 q3
      have hb4 := hb3.trans (b4.mono hb3.size)
      clear c0 c1 c2 c4 q3 hb3 b4 g2
      obtain ⟨c0, c1, c2, c4⟩ := unhide CF _ q4
      go_wp2_with fail
      refine (unhide g3 _).mono ?_
      rintro e w5' ⟨rfl, b5⟩
      have q5 := Below.at b5 (Array.getElem?_eq_some_iff.1 q4).1 q4
      have hb5 := hb4.trans (b5.mono hb4.size)
      clear c0 c1 c2 c4 q4 hb4 b5 g3
      obtain ⟨c0, c1, c2, c4⟩ := unhide CF _ q5
      go_wp2_with fail
      go_ret2
      exact ⟨by first | rfl | simp, hb5⟩
end Go.Proofs.Ytlanplknendmaaa

namespace Go.Proofs.Ytlanplknendmaaa
open Go.RowKit
set_option linter.unusedSimpArgs false
set_option linter.unusedVariables false

theorem Rd.take_err (r : Rd) (n : Nat) (h : r.err ≠ 0) : r.take n = ([], r) := by simp [Rd.take, h]
theorem Rd.num_err (r : Rd) (n : Nat) (h : r.err ≠ 0) : (r.num n).2 = r := by rw [Rd.num, Rd.take_err r n h]
theorem Rd.len_err (r : Rd) (m : Int) (h : r.err ≠ 0) : (r.len m).2 = r := by
  have h1 := r.num_err 4 h
  unfold Rd.len
  simp only [h1]
  split
  · simp [Rd.fail, h]
  · rfl
theorem Rd.text_err (r : Rd) (m : Int) (h : r.err ≠ 0) : (r.text m).2 = r := by
  unfold Rd.text
  rw [r.len_err m h, Rd.take_err r _ h]
theorem Rd.end_err (r : Rd) (h : r.err ≠ 0) : r.end' ≠ 0 := by
  unfold Rd.end'
  rw [if_pos h]; exact h
/-- Read's memory: the result, the reader, the fields. -/
structure FSt (w : World) (N : Nat) (wi : World) (row : Array Value) (r : Rd) : Prop where
  below : Below N w wi
  res : wi.heap[N]? = some (.cells Fl.zero.cells 29 (0, 0))
  x : wi.heap[N + 1 + 1]? = some (.cells row 29 (0, 0))
  rd : DdAt wi (N + 1) r
theorem FSt.turn {w : World} {N : Nat} {wi w' : World} {row : Array Value} {r r' : Rd} (h : FSt w N wi row r) (R : DdAt w' (N + 1) r') (T : Turned (N + 1) wi w') : FSt w N w' row r' :=
  ⟨T.under h.below (by omega), T.row (by omega) h.res, T.row (by omega) h.x, R⟩
theorem FSt.set {w : World} {N : Nat} {wi : World} {row row' : Array Value} {r : Rd} (h : FSt w N wi row r) (j : Nat) (v : Value) (e : row.setIfInBounds j v = row') : FSt w N (wi.setCell ⟨N + 1 + 1, j, none⟩ v) row' r := by
  refine ⟨h.below.setCell (p := ⟨N + 1 + 1, j, none⟩) (by show N ≤ N + 1 + 1; omega) _, ?_, ?_, h.rd.other (by omega) _⟩
  · rw [heap_setCell_other _ _ _ _ (by show N ≠ N + 1 + 1; omega)]; exact h.res
  · rw [← e]; exact heap_setCell_same _ _ _ _ _ _ h.x
theorem FSt.cell {w : World} {N : Nat} {wi : World} {row : Array Value} {r : Rd} (h : FSt w N wi row r) (j : Nat) : wi.cell? ⟨N + 1 + 1, j, none⟩ = row[j]? := by rw [cell_of_row _ _ _ _ _ _ h.x]
theorem FSt.frozen {w : World} {N : Nat} {wi : World} {row : Array Value} {r : Rd} (h : FSt w N wi row r) (j : Nat) : wi.frozen? ⟨N + 1 + 1, j, none⟩ = false := frozen_of_row _ _ _ _ _ h.x

set_option maxHeartbeats 4000000 in
set_option maxRecDepth 100000 in
theorem fread_calls (l : List UInt8) (hl : l.length ≤ 1000000000) (w : World) :
    Calls Try.prog 13 #[.string (str l)] w fun e w' => e = .returned (.tuple #[.agg (pPRead l).1.fl.cells, .int .i64 (pPRead l).2]) ∧ Below w.heap.size w w' := by
  obtain ⟨r0, h0⟩ : ∃ r, (⟨l, 0⟩ : Rd) = r := ⟨_, rfl⟩
  have hl0 : r0.rest.length ≤ 1000000000 := by rw [← h0]; exact hl
  have k0 := hide fun W (h : DdAt W (w.heap.size + 1) r0) => dnumber_calls _ 1 (by decide) r0 (by omega) W h
  have m0 := r0.num_rest 1
  have hb := Rd.num_lt r0 1
  have hpm := Pl.most_mono hl0 _ r0.pl_most
  have L0 : FSt w w.heap.size (((w.alloc (.cells Fl.zero.cells 29)).alloc (.cells (⟨l, 0⟩ : Rd).cells 66)).alloc (.cells Fl.zero.cells 29)) Fl.zero.cells r0 :=
    ⟨bel3 w _ _ _, (al3 w _ _ _).1, (al3 w _ _ _).2.2, by rw [← h0]; exact (al3 w _ _ _).2.1⟩
  unfold pPRead
  rw [h0]
  obtain ⟨P, hP⟩ : ∃ P, r0.pl = P := ⟨_, rfl⟩
  rw [hP] at hpm ⊢
  unfold Rd.pl at hP
  rw [show ((1 : Nat) : Int) = 1 from rfl] at k0
  generalize (r0.num 1).1 = t at *
  obtain ⟨r1, hr1⟩ : ∃ x, (r0.num 1).2 = x := ⟨_, rfl⟩
  rw [hr1] at k0 m0 hP
  have hl1 : r1.rest.length ≤ 1000000000 := by omega
  have ht : t < 256 := hb
  clear hr1 m0 hb hl h0
  have HP := hide hP
  have HL0 := hide L0
  clear hP L0
  have iz := fl_info Fl.zero
  have oz := fl_one Fl.zero
  by_cases h1 : t = 1
  · subst h1
    have hP := unhide HP
    rw [if_pos rfl] at hP
    subst hP
    unfold Rd.tr Rd.trR at *
    have m1 := r1.num_rest 4
    have m2 := (r1.num 4).2.text_rest 48
    have m3 := ((r1.num 4).2.text 48).2.text_rest 48
    have hw1 : (r1.num 4).1 < 4294967296 := Rd.num_lt _ 4
    have k1 := hide fun W (h : DdAt W (w.heap.size + 1) r1) => dnumber_calls _ 4 (by decide) r1 (by omega) W h
    rw [show ((4 : Nat) : Int) = 4 from rfl] at k1
    have k2 := hide fun W (h : DdAt W (w.heap.size + 1) (r1.num 4).2) => dtext_calls _ (r1.num 4).2 (by omega) 48 (by decide) W h
    rw [show ((48 : Nat) : Int) = 48 from rfl] at k2
    have k3 := hide fun W (h : DdAt W (w.heap.size + 1) ((r1.num 4).2.text 48).2) => dtext_calls _ ((r1.num 4).2.text 48).2 (by omega) 48 (by decide) W h
    rw [show ((48 : Nat) : Int) = 48 from rfl] at k3
    have k4 := hide fun W (h : DdAt W (w.heap.size + 1) (((r1.num 4).2.text 48).2.text 48).2) => dnumber_calls _ 8 (by decide) (((r1.num 4).2.text 48).2.text 48).2 (by omega) W h
    rw [show ((8 : Nat) : Int) = 8 from rfl] at k4
    have ke := hide fun W (h : DdAt W (w.heap.size + 1) ((((r1.num 4).2.text 48).2.text 48).2.num 8).2) => dend_calls _ ((((r1.num 4).2.text 48).2.text 48).2.num 8).2 W h
    generalize (((r1.num 4).2.text 48).2.text 48).2.num 8 = x4 at *
    generalize ((r1.num 4).2.text 48).2.text 48 = x3 at *
    generalize (r1.num 4).2.text 48 = x2 at *
    generalize r1.num 4 = x1 at *
    obtain ⟨a1, s1⟩ := x1
    obtain ⟨a2, s2⟩ := x2
    obtain ⟨a3, s3⟩ := x3
    obtain ⟨a4, s4⟩ := x4
    
    simp only at *
    have k8 := hide fun W => fright_calls (Pl.tr a1 a2 a3 a4) hpm W
    have ix := fl_info (Pl.tr a1 a2 a3 a4).fl
    have ox := fl_one (Pl.tr a1 a2 a3 a4).fl
    have sx : Hid (Fl.zero.cells.size = (Pl.tr a1 a2 a3 a4).fl.cells.size) := rfl
    have hcl : Hid (#[.int .i64 1, .int .u32 (a1 : Int), .string (str a2), .string (str a3), .int .u64 (a4 : Int)] = (Pl.tr a1 a2 a3 a4).fl.cells) := rfl
    
    generalize s4.end' = E at *
    generalize (Pl.tr a1 a2 a3 a4).right = R at *
    generalize hp : Pl.tr a1 a2 a3 a4 = p at *
    have hX : Hid (∃ X, p.fl.cells = X) := ⟨_, rfl⟩
    obtain ⟨X, hX⟩ := unhide hX
    rw [hX] at k8 ix ox sx hcl
    have hX := hide hX
    clear m1 m2 m3 hl1 HP ht hpm hp hl0
    obtain ⟨A, hA⟩ : ∃ A, (if E ≠ 0 then (Pl.no, E) else if R = true then (p, 0) else (Pl.no, 4)) = A := ⟨_, rfl⟩
    rw [hA]
    have HA := hide hA
    clear hA
    go_enter Try.func13, Try.ntmps13
    have L0 := unhide HL0
    clear HL0
    go_wp2_with fail
    refine (unhide k0 _ L0.rd).mono ?_
    rintro e w1 ⟨rfl, R0, T0⟩
    have M := L0.turn R0 T0
    have f := M.frozen 0
    have c : w1.cell? ⟨w.heap.size + 1 + 1, 0, none⟩ = some (.int .i64 0) := M.cell 0
    have L1 := M.set (row' := #[.int .i64 1, .int .u32 0, .string (str []), .string (str []), .int .u64 0]) 0 (.int .i64 1) rfl
    have d := L1.cell 0
    simp only [List.getElem?_toArray, List.getElem?_cons_zero] at d
    clear L0 R0 T0 M k0
    go_wp2_with fail
    refine (unhide k1 _ L1.rd).mono ?_
    rintro e w2 ⟨rfl, R0, T0⟩
    have M := L1.turn R0 T0
    have f := M.frozen 1
    have c : w2.cell? ⟨w.heap.size + 1 + 1, 1, none⟩ = some (.int .u32 0) := M.cell 1
    have L2 := M.set (row' := #[.int .i64 1, .int .u32 (a1 : Int), .string (str []), .string (str []), .int .u64 0]) 1 (.int .u32 (a1 : Int)) rfl
    have d := L2.cell 0
    simp only [List.getElem?_toArray, List.getElem?_cons_zero] at d
    clear L1 R0 T0 M k1
    go_wp2_with fail
    refine (unhide k2 _ L2.rd).mono ?_
    rintro e w3 ⟨rfl, R0, T0⟩
    have M := L2.turn R0 T0
    have f := M.frozen 2
    have c : w3.cell? ⟨w.heap.size + 1 + 1, 2, none⟩ = some (.string (str [])) := M.cell 2
    have L3 := M.set (row' := #[.int .i64 1, .int .u32 (a1 : Int), .string (str a2), .string (str []), .int .u64 0]) 2 (.string (str a2)) rfl
    have d := L3.cell 0
    simp only [List.getElem?_toArray, List.getElem?_cons_zero] at d
    clear L2 R0 T0 M k2
    go_wp2_with fail
    refine (unhide k3 _ L3.rd).mono ?_
    rintro e w4 ⟨rfl, R0, T0⟩
    have M := L3.turn R0 T0
    have f := M.frozen 3
    have c : w4.cell? ⟨w.heap.size + 1 + 1, 3, none⟩ = some (.string (str [])) := M.cell 3
    have L4 := M.set (row' := #[.int .i64 1, .int .u32 (a1 : Int), .string (str a2), .string (str a3), .int .u64 0]) 3 (.string (str a3)) rfl
    have d := L4.cell 0
    simp only [List.getElem?_toArray, List.getElem?_cons_zero] at d
    clear L3 R0 T0 M k3
    go_wp2_with fail
    refine (unhide k4 _ L4.rd).mono ?_
    rintro e w5 ⟨rfl, R0, T0⟩
    have M := L4.turn R0 T0
    have f := M.frozen 4
    have c : w5.cell? ⟨w.heap.size + 1 + 1, 4, none⟩ = some (.int .u64 0) := M.cell 4
    have L5 := M.set (row' := #[.int .i64 1, .int .u32 (a1 : Int), .string (str a2), .string (str a3), .int .u64 (a4 : Int)]) 4 (.int .u64 (a4 : Int)) rfl
    have d := L5.cell 0
    simp only [List.getElem?_toArray, List.getElem?_cons_zero] at d
    clear L4 R0 T0 M k4
    go_wp2_with fail
    refine (unhide ke _ L5.rd).mono ?_
    rintro e w6 ⟨rfl, rfl⟩
    clear ke
    have q0 := L5.res
    have q1 := L5.x
    have hb := L5.below
    clear d
    rw [unhide hcl] at q1
    clear L5
    by_cases hE : E = 0
    · have hE' : (E != 0) = false := by simp [hE]
      have hc : ¬ E ≠ 0 := fun h => h hE
      have hA := unhide HA
      rw [if_neg hc] at hA
      have HB := hide hA
      clear hE hc hA HA
      go_wp2_with (refine wpList_load_row rfl 29 (.tmp 5) rfl (w.heap.size + 1 + 1) rfl 29 X (0, 0) _ q1 Try.underlying29 rfl ix ?_)
      refine (unhide k8 _).mono ?_
      rintro e w8 ⟨rfl, b8⟩
      have q0' := Below.at b8 (Array.getElem?_eq_some_iff.1 q0).1 q0
      have q1' := Below.at b8 (Array.getElem?_eq_some_iff.1 q1).1 q1
      have hb' := hb.trans (b8.mono hb.size)
      clear q0 q1 hb b8
      cases R with
      | false =>
        have hA := unhide HB
        rw [if_neg (by simp)] at hA
        subst hA
        go_wp2_with (refine wpList_store_row rfl 29 (.tmp 2) (.tmp 61) rfl w.heap.size Fl.zero.cells rfl rfl 29 _ q0' iz rfl oz ?_)
        exact bodyPost_ret (results_row_tmp rfl _ _ w.heap.size _ _ _ _ rfl (setRow_heap _ _ _ _ _ _ q0') Try.underlying29 rfl iz) rfl ⟨rfl, below_setRow hb' (Nat.le_refl _) _⟩
      | true =>
        have hA := unhide HB
        rw [if_pos rfl] at hA
        subst hA
        go_wp2_with (first
          | (refine wpList_load_row rfl 29 (.tmp 5) rfl (w.heap.size + 1 + 1) rfl 29 X (0, 0) _ q1' Try.underlying29 rfl ix ?_)
          | (refine wpList_store_row rfl 29 (.tmp 2) (.tmp 62) rfl w.heap.size X rfl rfl 29 _ q0' ix (unhide sx) ox ?_))
        exact bodyPost_ret (results_row_tmp rfl _ _ w.heap.size _ _ _ _ rfl (setRow_heap _ _ _ _ _ _ q0') Try.underlying29 rfl ix) rfl ⟨by first | rfl | (rw [unhide hX]; rfl), below_setRow hb' (Nat.le_refl _) _⟩
    · have hE' : (E != 0) = true := by simp [hE]
      have hA := unhide HA
      rw [if_pos hE] at hA
      subst hA
      clear hE
      go_wp2_with (refine wpList_store_row rfl 29 (.tmp 2) (.tmp 56) rfl w.heap.size Fl.zero.cells rfl rfl 29 _ q0 iz rfl oz ?_)
      exact bodyPost_ret (results_row_tmp rfl _ _ w.heap.size _ _ _ _ rfl (setRow_heap _ _ _ _ _ _ q0) Try.underlying29 rfl iz) rfl ⟨rfl, below_setRow hb (Nat.le_refl _) _⟩
  · by_cases h2 : t = 2
    · subst h2
      have hP := unhide HP
      rw [if_neg h1, if_pos rfl] at hP
      subst hP
      unfold Rd.sa Rd.saR at *
      have m1 := r1.text_rest 48
      have k1 := hide fun W (h : DdAt W (w.heap.size + 1) r1) => dtext_calls _ r1 (by omega) 48 (by decide) W h
      rw [show ((48 : Nat) : Int) = 48 from rfl] at k1
      have k2 := hide fun W (h : DdAt W (w.heap.size + 1) (r1.text 48).2) => dtext_calls _ (r1.text 48).2 (by omega) 256 (by decide) W h
      rw [show ((256 : Nat) : Int) = 256 from rfl] at k2
      have ke := hide fun W (h : DdAt W (w.heap.size + 1) ((r1.text 48).2.text 256).2) => dend_calls _ ((r1.text 48).2.text 256).2 W h
      generalize (r1.text 48).2.text 256 = x2 at *
      generalize r1.text 48 = x1 at *
      obtain ⟨a1, s1⟩ := x1
      obtain ⟨a2, s2⟩ := x2
      
      simp only at *
      have k8 := hide fun W => fright_calls (Pl.sa a1 a2) hpm W
      have ix := fl_info (Pl.sa a1 a2).fl
      have ox := fl_one (Pl.sa a1 a2).fl
      have sx : Hid (Fl.zero.cells.size = (Pl.sa a1 a2).fl.cells.size) := rfl
      have hcl : Hid (#[.int .i64 2, .int .u32 0, .string (str a1), .string (str a2), .int .u64 0] = (Pl.sa a1 a2).fl.cells) := rfl
      
      generalize s2.end' = E at *
      generalize (Pl.sa a1 a2).right = R at *
      generalize hp : Pl.sa a1 a2 = p at *
      have hX : Hid (∃ X, p.fl.cells = X) := ⟨_, rfl⟩
      obtain ⟨X, hX⟩ := unhide hX
      rw [hX] at k8 ix ox sx hcl
      have hX := hide hX
      clear m1 hl1 HP ht hpm hp hl0 h1
      obtain ⟨A, hA⟩ : ∃ A, (if E ≠ 0 then (Pl.no, E) else if R = true then (p, 0) else (Pl.no, 4)) = A := ⟨_, rfl⟩
      rw [hA]
      have HA := hide hA
      clear hA
      go_enter Try.func13, Try.ntmps13
      have L0 := unhide HL0
      clear HL0
      go_wp2_with fail
      refine (unhide k0 _ L0.rd).mono ?_
      rintro e w1 ⟨rfl, R0, T0⟩
      have M := L0.turn R0 T0
      have f := M.frozen 0
      have c : w1.cell? ⟨w.heap.size + 1 + 1, 0, none⟩ = some (.int .i64 0) := M.cell 0
      have L1 := M.set (row' := #[.int .i64 2, .int .u32 0, .string (str []), .string (str []), .int .u64 0]) 0 (.int .i64 2) rfl
      have d := L1.cell 0
      simp only [List.getElem?_toArray, List.getElem?_cons_zero] at d
      clear L0 R0 T0 M k0
      go_wp2_with fail
      refine (unhide k1 _ L1.rd).mono ?_
      rintro e w2 ⟨rfl, R0, T0⟩
      have M := L1.turn R0 T0
      have f := M.frozen 2
      have c : w2.cell? ⟨w.heap.size + 1 + 1, 2, none⟩ = some (.string (str [])) := M.cell 2
      have L2 := M.set (row' := #[.int .i64 2, .int .u32 0, .string (str a1), .string (str []), .int .u64 0]) 2 (.string (str a1)) rfl
      have d := L2.cell 0
      simp only [List.getElem?_toArray, List.getElem?_cons_zero] at d
      clear L1 R0 T0 M k1
      go_wp2_with fail
      refine (unhide k2 _ L2.rd).mono ?_
      rintro e w3 ⟨rfl, R0, T0⟩
      have M := L2.turn R0 T0
      have f := M.frozen 3
      have c : w3.cell? ⟨w.heap.size + 1 + 1, 3, none⟩ = some (.string (str [])) := M.cell 3
      have L3 := M.set (row' := #[.int .i64 2, .int .u32 0, .string (str a1), .string (str a2), .int .u64 0]) 3 (.string (str a2)) rfl
      have d := L3.cell 0
      simp only [List.getElem?_toArray, List.getElem?_cons_zero] at d
      clear L2 R0 T0 M k2
      go_wp2_with fail
      refine (unhide ke _ L3.rd).mono ?_
      rintro e w4 ⟨rfl, rfl⟩
      clear ke
      have q0 := L3.res
      have q1 := L3.x
      have hb := L3.below
      clear d
      rw [unhide hcl] at q1
      clear L3
      by_cases hE : E = 0
      · have hE' : (E != 0) = false := by simp [hE]
        have hc : ¬ E ≠ 0 := fun h => h hE
        have hA := unhide HA
        rw [if_neg hc] at hA
        have HB := hide hA
        clear hE hc hA HA
        go_wp2_with (refine wpList_load_row rfl 29 (.tmp 5) rfl (w.heap.size + 1 + 1) rfl 29 X (0, 0) _ q1 Try.underlying29 rfl ix ?_)
        refine (unhide k8 _).mono ?_
        rintro e w8 ⟨rfl, b8⟩
        have q0' := Below.at b8 (Array.getElem?_eq_some_iff.1 q0).1 q0
        have q1' := Below.at b8 (Array.getElem?_eq_some_iff.1 q1).1 q1
        have hb' := hb.trans (b8.mono hb.size)
        clear q0 q1 hb b8
        cases R with
        | false =>
          have hA := unhide HB
          rw [if_neg (by simp)] at hA
          subst hA
          go_wp2_with (refine wpList_store_row rfl 29 (.tmp 2) (.tmp 61) rfl w.heap.size Fl.zero.cells rfl rfl 29 _ q0' iz rfl oz ?_)
          exact bodyPost_ret (results_row_tmp rfl _ _ w.heap.size _ _ _ _ rfl (setRow_heap _ _ _ _ _ _ q0') Try.underlying29 rfl iz) rfl ⟨rfl, below_setRow hb' (Nat.le_refl _) _⟩
        | true =>
          have hA := unhide HB
          rw [if_pos rfl] at hA
          subst hA
          go_wp2_with (first
            | (refine wpList_load_row rfl 29 (.tmp 5) rfl (w.heap.size + 1 + 1) rfl 29 X (0, 0) _ q1' Try.underlying29 rfl ix ?_)
            | (refine wpList_store_row rfl 29 (.tmp 2) (.tmp 62) rfl w.heap.size X rfl rfl 29 _ q0' ix (unhide sx) ox ?_))
          exact bodyPost_ret (results_row_tmp rfl _ _ w.heap.size _ _ _ _ rfl (setRow_heap _ _ _ _ _ _ q0') Try.underlying29 rfl ix) rfl ⟨by first | rfl | (rw [unhide hX]; rfl), below_setRow hb' (Nat.le_refl _) _⟩
      · have hE' : (E != 0) = true := by simp [hE]
        have hA := unhide HA
        rw [if_pos hE] at hA
        subst hA
        clear hE
        go_wp2_with (refine wpList_store_row rfl 29 (.tmp 2) (.tmp 56) rfl w.heap.size Fl.zero.cells rfl rfl 29 _ q0 iz rfl oz ?_)
        exact bodyPost_ret (results_row_tmp rfl _ _ w.heap.size _ _ _ _ rfl (setRow_heap _ _ _ _ _ _ q0) Try.underlying29 rfl iz) rfl ⟨rfl, below_setRow hb (Nat.le_refl _) _⟩
    · by_cases h3 : t = 3
      · subst h3
        have hP := unhide HP
        rw [if_neg h1, if_neg h2, if_pos rfl] at hP
        subst hP
        unfold Rd.de Rd.deR at *
        have m1 := r1.num_rest 4
        have m2 := (r1.num 4).2.text_rest 48
        have hw1 : (r1.num 4).1 < 4294967296 := Rd.num_lt _ 4
        have k1 := hide fun W (h : DdAt W (w.heap.size + 1) r1) => dnumber_calls _ 4 (by decide) r1 (by omega) W h
        rw [show ((4 : Nat) : Int) = 4 from rfl] at k1
        have k2 := hide fun W (h : DdAt W (w.heap.size + 1) (r1.num 4).2) => dtext_calls _ (r1.num 4).2 (by omega) 48 (by decide) W h
        rw [show ((48 : Nat) : Int) = 48 from rfl] at k2
        have k3 := hide fun W (h : DdAt W (w.heap.size + 1) ((r1.num 4).2.text 48).2) => dnumber_calls _ 8 (by decide) ((r1.num 4).2.text 48).2 (by omega) W h
        rw [show ((8 : Nat) : Int) = 8 from rfl] at k3
        have ke := hide fun W (h : DdAt W (w.heap.size + 1) (((r1.num 4).2.text 48).2.num 8).2) => dend_calls _ (((r1.num 4).2.text 48).2.num 8).2 W h
        generalize ((r1.num 4).2.text 48).2.num 8 = x3 at *
        generalize (r1.num 4).2.text 48 = x2 at *
        generalize r1.num 4 = x1 at *
        obtain ⟨a1, s1⟩ := x1
        obtain ⟨a2, s2⟩ := x2
        obtain ⟨a3, s3⟩ := x3
        
        simp only at *
        have k8 := hide fun W => fright_calls (Pl.de a1 a2 a3) hpm W
        have ix := fl_info (Pl.de a1 a2 a3).fl
        have ox := fl_one (Pl.de a1 a2 a3).fl
        have sx : Hid (Fl.zero.cells.size = (Pl.de a1 a2 a3).fl.cells.size) := rfl
        have hcl : Hid (#[.int .i64 3, .int .u32 (a1 : Int), .string (str a2), .string (str []), .int .u64 (a3 : Int)] = (Pl.de a1 a2 a3).fl.cells) := rfl
        
        generalize s3.end' = E at *
        generalize (Pl.de a1 a2 a3).right = R at *
        generalize hp : Pl.de a1 a2 a3 = p at *
        have hX : Hid (∃ X, p.fl.cells = X) := ⟨_, rfl⟩
        obtain ⟨X, hX⟩ := unhide hX
        rw [hX] at k8 ix ox sx hcl
        have hX := hide hX
        clear m1 m2 hl1 HP ht hpm hp hl0 h1 h2
        obtain ⟨A, hA⟩ : ∃ A, (if E ≠ 0 then (Pl.no, E) else if R = true then (p, 0) else (Pl.no, 4)) = A := ⟨_, rfl⟩
        rw [hA]
        have HA := hide hA
        clear hA
        go_enter Try.func13, Try.ntmps13
        have L0 := unhide HL0
        clear HL0
        go_wp2_with fail
        refine (unhide k0 _ L0.rd).mono ?_
        rintro e w1 ⟨rfl, R0, T0⟩
        have M := L0.turn R0 T0
        have f := M.frozen 0
        have c : w1.cell? ⟨w.heap.size + 1 + 1, 0, none⟩ = some (.int .i64 0) := M.cell 0
        have L1 := M.set (row' := #[.int .i64 3, .int .u32 0, .string (str []), .string (str []), .int .u64 0]) 0 (.int .i64 3) rfl
        have d := L1.cell 0
        simp only [List.getElem?_toArray, List.getElem?_cons_zero] at d
        clear L0 R0 T0 M k0
        go_wp2_with fail
        refine (unhide k1 _ L1.rd).mono ?_
        rintro e w2 ⟨rfl, R0, T0⟩
        have M := L1.turn R0 T0
        have f := M.frozen 1
        have c : w2.cell? ⟨w.heap.size + 1 + 1, 1, none⟩ = some (.int .u32 0) := M.cell 1
        have L2 := M.set (row' := #[.int .i64 3, .int .u32 (a1 : Int), .string (str []), .string (str []), .int .u64 0]) 1 (.int .u32 (a1 : Int)) rfl
        have d := L2.cell 0
        simp only [List.getElem?_toArray, List.getElem?_cons_zero] at d
        clear L1 R0 T0 M k1
        go_wp2_with fail
        refine (unhide k2 _ L2.rd).mono ?_
        rintro e w3 ⟨rfl, R0, T0⟩
        have M := L2.turn R0 T0
        have f := M.frozen 2
        have c : w3.cell? ⟨w.heap.size + 1 + 1, 2, none⟩ = some (.string (str [])) := M.cell 2
        have L3 := M.set (row' := #[.int .i64 3, .int .u32 (a1 : Int), .string (str a2), .string (str []), .int .u64 0]) 2 (.string (str a2)) rfl
        have d := L3.cell 0
        simp only [List.getElem?_toArray, List.getElem?_cons_zero] at d
        clear L2 R0 T0 M k2
        go_wp2_with fail
        refine (unhide k3 _ L3.rd).mono ?_
        rintro e w4 ⟨rfl, R0, T0⟩
        have M := L3.turn R0 T0
        have f := M.frozen 4
        have c : w4.cell? ⟨w.heap.size + 1 + 1, 4, none⟩ = some (.int .u64 0) := M.cell 4
        have L4 := M.set (row' := #[.int .i64 3, .int .u32 (a1 : Int), .string (str a2), .string (str []), .int .u64 (a3 : Int)]) 4 (.int .u64 (a3 : Int)) rfl
        have d := L4.cell 0
        simp only [List.getElem?_toArray, List.getElem?_cons_zero] at d
        clear L3 R0 T0 M k3
        go_wp2_with fail
        refine (unhide ke _ L4.rd).mono ?_
        rintro e w5 ⟨rfl, rfl⟩
        clear ke
        have q0 := L4.res
        have q1 := L4.x
        have hb := L4.below
        clear d
        rw [unhide hcl] at q1
        clear L4
        by_cases hE : E = 0
        · have hE' : (E != 0) = false := by simp [hE]
          have hc : ¬ E ≠ 0 := fun h => h hE
          have hA := unhide HA
          rw [if_neg hc] at hA
          have HB := hide hA
          clear hE hc hA HA
          go_wp2_with (refine wpList_load_row rfl 29 (.tmp 5) rfl (w.heap.size + 1 + 1) rfl 29 X (0, 0) _ q1 Try.underlying29 rfl ix ?_)
          refine (unhide k8 _).mono ?_
          rintro e w8 ⟨rfl, b8⟩
          have q0' := Below.at b8 (Array.getElem?_eq_some_iff.1 q0).1 q0
          have q1' := Below.at b8 (Array.getElem?_eq_some_iff.1 q1).1 q1
          have hb' := hb.trans (b8.mono hb.size)
          clear q0 q1 hb b8
          cases R with
          | false =>
            have hA := unhide HB
            rw [if_neg (by simp)] at hA
            subst hA
            go_wp2_with (refine wpList_store_row rfl 29 (.tmp 2) (.tmp 61) rfl w.heap.size Fl.zero.cells rfl rfl 29 _ q0' iz rfl oz ?_)
            exact bodyPost_ret (results_row_tmp rfl _ _ w.heap.size _ _ _ _ rfl (setRow_heap _ _ _ _ _ _ q0') Try.underlying29 rfl iz) rfl ⟨rfl, below_setRow hb' (Nat.le_refl _) _⟩
          | true =>
            have hA := unhide HB
            rw [if_pos rfl] at hA
            subst hA
            go_wp2_with (first
              | (refine wpList_load_row rfl 29 (.tmp 5) rfl (w.heap.size + 1 + 1) rfl 29 X (0, 0) _ q1' Try.underlying29 rfl ix ?_)
              | (refine wpList_store_row rfl 29 (.tmp 2) (.tmp 62) rfl w.heap.size X rfl rfl 29 _ q0' ix (unhide sx) ox ?_))
            exact bodyPost_ret (results_row_tmp rfl _ _ w.heap.size _ _ _ _ rfl (setRow_heap _ _ _ _ _ _ q0') Try.underlying29 rfl ix) rfl ⟨by first | rfl | (rw [unhide hX]; rfl), below_setRow hb' (Nat.le_refl _) _⟩
        · have hE' : (E != 0) = true := by simp [hE]
          have hA := unhide HA
          rw [if_pos hE] at hA
          subst hA
          clear hE
          go_wp2_with (refine wpList_store_row rfl 29 (.tmp 2) (.tmp 56) rfl w.heap.size Fl.zero.cells rfl rfl 29 _ q0 iz rfl oz ?_)
          exact bodyPost_ret (results_row_tmp rfl _ _ w.heap.size _ _ _ _ rfl (setRow_heap _ _ _ _ _ _ q0) Try.underlying29 rfl iz) rfl ⟨rfl, below_setRow hb (Nat.le_refl _) _⟩
      · by_cases ht0 : t = 0
        · have hP := unhide HP
          rw [if_neg h1, if_neg h2, if_neg h3] at hP
          subst hP
          obtain ⟨s0, hs0⟩ : ∃ s, r1.fail 4 = s := ⟨_, rfl⟩
          have hbad : s0.err ≠ 0 := by rw [← hs0]; exact Rd.fail_bad r1 4 (by decide)
          have hls : s0.rest.length ≤ 1000000000 := by rw [← hs0]; unfold Rd.fail; split <;> exact hl1
          have kf := hide fun W (h : DdAt W (w.heap.size + 1) r1) => dfail_calls _ r1 4 W h
          have E1 := s0.num_err 4 hbad
          have hw1 : (s0.num 4).1 < 4294967296 := Rd.num_lt _ 4
          have k1 := hide fun W (h : DdAt W (w.heap.size + 1) s0) => dnumber_calls _ 4 (by decide) s0 (by omega) W h
          rw [show ((4 : Nat) : Int) = 4 from rfl] at k1
          have k2 := hide fun W (h : DdAt W (w.heap.size + 1) s0) => dtext_calls _ s0 (by omega) 48 (by decide) W h
          rw [show ((48 : Nat) : Int) = 48 from rfl] at k2
          have k3 := hide fun W (h : DdAt W (w.heap.size + 1) s0) => dnumber_calls _ 8 (by decide) s0 (by omega) W h
          rw [show ((8 : Nat) : Int) = 8 from rfl] at k3
          have ke := hide fun W (h : DdAt W (w.heap.size + 1) s0) => dend_calls _ s0 W h
          have E2 := s0.text_err 48 hbad
          have E3 := s0.num_err 8 hbad
          rw [E1] at k1
          rw [E2] at k2
          rw [E3] at k3
          simp only at *
          rw [hs0] at kf ⊢
          have hE := s0.end_err hbad
          generalize (s0.num 4).1 = a1 at *
          generalize (s0.text 48).1 = a2 at *
          generalize (s0.num 8).1 = a3 at *
          generalize s0.end' = E at *
          obtain ⟨p, hp⟩ : ∃ p : Pl, p = .no := ⟨_, rfl⟩
          obtain ⟨R, hR⟩ : ∃ R : Bool, Pl.no.right = R := ⟨_, rfl⟩
          rw [hR]
          rw [show (if E ≠ 0 then (Pl.no, E) else if R = true then (Pl.no, 0) else (Pl.no, 4)) = (if E ≠ 0 then (Pl.no, E) else if R = true then (p, 0) else (Pl.no, 4)) by rw [hp]]
          have d1 : ((t : Int) == 1) = false := by simp; omega
          have d2 : ((t : Int) == 2) = false := by simp; omega
          have d3 : ((t : Int) != 2) = true := by simp; omega
          have b1 : decide ((t : Int) < 1) = true := by simp; omega
          clear ht0
          clear E1 E2 E3 hbad hls hs0 hl1 HP hpm hl0 h1 h2 h3 hp hR
          obtain ⟨A, hA⟩ : ∃ A, (if E ≠ 0 then (Pl.no, E) else if R = true then (p, 0) else (Pl.no, 4)) = A := ⟨_, rfl⟩
          rw [hA]
          have HA := hide hA
          clear hA
          go_enter Try.func13, Try.ntmps13
          have L0 := unhide HL0
          clear HL0
          go_wp2_with fail
          refine (unhide k0 _ L0.rd).mono ?_
          rintro e w1 ⟨rfl, R0, T0⟩
          have M := L0.turn R0 T0
          have f := M.frozen 0
          have c : w1.cell? ⟨w.heap.size + 1 + 1, 0, none⟩ = some (.int .i64 0) := M.cell 0
          have L1 := M.set (row' := #[.int .i64 (t : Int), .int .u32 0, .string (str []), .string (str []), .int .u64 0]) 0 (.int .i64 (t : Int)) rfl
          have d := L1.cell 0
          simp only [List.getElem?_toArray, List.getElem?_cons_zero] at d
          clear L0 R0 T0 M k0
          go_wp2_with fail
          refine (unhide kf _ L1.rd).mono ?_
          rintro e w2 ⟨rfl, R0, T0⟩
          have L2 := L1.turn R0 T0
          have d := L2.cell 0
          simp only [List.getElem?_toArray, List.getElem?_cons_zero] at d
          clear L1 R0 T0 kf
          go_wp2_with fail
          refine (unhide k1 _ L2.rd).mono ?_
          rintro e w3 ⟨rfl, R0, T0⟩
          have M := L2.turn R0 T0
          have f := M.frozen 1
          have c : w3.cell? ⟨w.heap.size + 1 + 1, 1, none⟩ = some (.int .u32 0) := M.cell 1
          have L3 := M.set (row' := #[.int .i64 (t : Int), .int .u32 (a1 : Int), .string (str []), .string (str []), .int .u64 0]) 1 (.int .u32 (a1 : Int)) rfl
          have d := L3.cell 0
          simp only [List.getElem?_toArray, List.getElem?_cons_zero] at d
          clear L2 R0 T0 M k1
          go_wp2_with fail
          refine (unhide k2 _ L3.rd).mono ?_
          rintro e w4 ⟨rfl, R0, T0⟩
          have M := L3.turn R0 T0
          have f := M.frozen 2
          have c : w4.cell? ⟨w.heap.size + 1 + 1, 2, none⟩ = some (.string (str [])) := M.cell 2
          have L4 := M.set (row' := #[.int .i64 (t : Int), .int .u32 (a1 : Int), .string (str a2), .string (str []), .int .u64 0]) 2 (.string (str a2)) rfl
          have d := L4.cell 0
          simp only [List.getElem?_toArray, List.getElem?_cons_zero] at d
          clear L3 R0 T0 M k2
          go_wp2_with fail
          refine (unhide k3 _ L4.rd).mono ?_
          rintro e w5 ⟨rfl, R0, T0⟩
          have M := L4.turn R0 T0
          have f := M.frozen 4
          have c : w5.cell? ⟨w.heap.size + 1 + 1, 4, none⟩ = some (.int .u64 0) := M.cell 4
          have L5 := M.set (row' := #[.int .i64 (t : Int), .int .u32 (a1 : Int), .string (str a2), .string (str []), .int .u64 (a3 : Int)]) 4 (.int .u64 (a3 : Int)) rfl
          have d := L5.cell 0
          simp only [List.getElem?_toArray, List.getElem?_cons_zero] at d
          clear L4 R0 T0 M k3
          go_wp2_with fail
          refine (unhide ke _ L5.rd).mono ?_
          rintro e w6 ⟨rfl, rfl⟩
          clear ke
          have q0 := L5.res
          have q1 := L5.x
          have hb := L5.below
          clear d
          have hA := unhide HA
          rw [if_pos hE] at hA
          subst hA
          have hE' : (E != 0) = true := by simp [hE]
          clear hE HA L5
          go_wp2_with (refine wpList_store_row rfl 29 (.tmp 2) (.tmp 56) rfl w.heap.size Fl.zero.cells rfl rfl 29 _ q0 iz rfl oz ?_)
          exact bodyPost_ret (results_row_tmp rfl _ _ w.heap.size _ _ _ _ rfl (setRow_heap _ _ _ _ _ _ q0) Try.underlying29 rfl iz) rfl ⟨rfl, below_setRow hb (Nat.le_refl _) _⟩
        · have hP := unhide HP
          rw [if_neg h1, if_neg h2, if_neg h3] at hP
          subst hP
          obtain ⟨s0, hs0⟩ : ∃ s, r1.fail 4 = s := ⟨_, rfl⟩
          have hbad : s0.err ≠ 0 := by rw [← hs0]; exact Rd.fail_bad r1 4 (by decide)
          have hls : s0.rest.length ≤ 1000000000 := by rw [← hs0]; unfold Rd.fail; split <;> exact hl1
          have kf := hide fun W (h : DdAt W (w.heap.size + 1) r1) => dfail_calls _ r1 4 W h
          have E1 := s0.num_err 4 hbad
          have hw1 : (s0.num 4).1 < 4294967296 := Rd.num_lt _ 4
          have k1 := hide fun W (h : DdAt W (w.heap.size + 1) s0) => dnumber_calls _ 4 (by decide) s0 (by omega) W h
          rw [show ((4 : Nat) : Int) = 4 from rfl] at k1
          have k2 := hide fun W (h : DdAt W (w.heap.size + 1) s0) => dtext_calls _ s0 (by omega) 48 (by decide) W h
          rw [show ((48 : Nat) : Int) = 48 from rfl] at k2
          have k3 := hide fun W (h : DdAt W (w.heap.size + 1) s0) => dnumber_calls _ 8 (by decide) s0 (by omega) W h
          rw [show ((8 : Nat) : Int) = 8 from rfl] at k3
          have ke := hide fun W (h : DdAt W (w.heap.size + 1) s0) => dend_calls _ s0 W h
          have E2 := s0.text_err 48 hbad
          have E3 := s0.num_err 8 hbad
          rw [E1] at k1
          rw [E2] at k2
          rw [E3] at k3
          simp only at *
          rw [hs0] at kf ⊢
          have hE := s0.end_err hbad
          generalize (s0.num 4).1 = a1 at *
          generalize (s0.text 48).1 = a2 at *
          generalize (s0.num 8).1 = a3 at *
          generalize s0.end' = E at *
          obtain ⟨p, hp⟩ : ∃ p : Pl, p = .no := ⟨_, rfl⟩
          obtain ⟨R, hR⟩ : ∃ R : Bool, Pl.no.right = R := ⟨_, rfl⟩
          rw [hR]
          rw [show (if E ≠ 0 then (Pl.no, E) else if R = true then (Pl.no, 0) else (Pl.no, 4)) = (if E ≠ 0 then (Pl.no, E) else if R = true then (p, 0) else (Pl.no, 4)) by rw [hp]]
          have d1 : ((t : Int) == 1) = false := by simp; omega
          have d2 : ((t : Int) == 2) = false := by simp; omega
          have d3 : ((t : Int) != 2) = true := by simp; omega
          have b1 : decide ((t : Int) < 1) = false := by simp; omega
          have b2 : decide ((3 : Int) < (t : Int)) = true := by simp; omega
          clear ht0
          clear E1 E2 E3 hbad hls hs0 hl1 HP hpm hl0 h1 h2 h3 hp hR
          obtain ⟨A, hA⟩ : ∃ A, (if E ≠ 0 then (Pl.no, E) else if R = true then (p, 0) else (Pl.no, 4)) = A := ⟨_, rfl⟩
          rw [hA]
          have HA := hide hA
          clear hA
          go_enter Try.func13, Try.ntmps13
          have L0 := unhide HL0
          clear HL0
          go_wp2_with fail
          refine (unhide k0 _ L0.rd).mono ?_
          rintro e w1 ⟨rfl, R0, T0⟩
          have M := L0.turn R0 T0
          have f := M.frozen 0
          have c : w1.cell? ⟨w.heap.size + 1 + 1, 0, none⟩ = some (.int .i64 0) := M.cell 0
          have L1 := M.set (row' := #[.int .i64 (t : Int), .int .u32 0, .string (str []), .string (str []), .int .u64 0]) 0 (.int .i64 (t : Int)) rfl
          have d := L1.cell 0
          simp only [List.getElem?_toArray, List.getElem?_cons_zero] at d
          clear L0 R0 T0 M k0
          go_wp2_with fail
          refine (unhide kf _ L1.rd).mono ?_
          rintro e w2 ⟨rfl, R0, T0⟩
          have L2 := L1.turn R0 T0
          have d := L2.cell 0
          simp only [List.getElem?_toArray, List.getElem?_cons_zero] at d
          clear L1 R0 T0 kf
          go_wp2_with fail
          refine (unhide k1 _ L2.rd).mono ?_
          rintro e w3 ⟨rfl, R0, T0⟩
          have M := L2.turn R0 T0
          have f := M.frozen 1
          have c : w3.cell? ⟨w.heap.size + 1 + 1, 1, none⟩ = some (.int .u32 0) := M.cell 1
          have L3 := M.set (row' := #[.int .i64 (t : Int), .int .u32 (a1 : Int), .string (str []), .string (str []), .int .u64 0]) 1 (.int .u32 (a1 : Int)) rfl
          have d := L3.cell 0
          simp only [List.getElem?_toArray, List.getElem?_cons_zero] at d
          clear L2 R0 T0 M k1
          go_wp2_with fail
          refine (unhide k2 _ L3.rd).mono ?_
          rintro e w4 ⟨rfl, R0, T0⟩
          have M := L3.turn R0 T0
          have f := M.frozen 2
          have c : w4.cell? ⟨w.heap.size + 1 + 1, 2, none⟩ = some (.string (str [])) := M.cell 2
          have L4 := M.set (row' := #[.int .i64 (t : Int), .int .u32 (a1 : Int), .string (str a2), .string (str []), .int .u64 0]) 2 (.string (str a2)) rfl
          have d := L4.cell 0
          simp only [List.getElem?_toArray, List.getElem?_cons_zero] at d
          clear L3 R0 T0 M k2
          go_wp2_with fail
          refine (unhide k3 _ L4.rd).mono ?_
          rintro e w5 ⟨rfl, R0, T0⟩
          have M := L4.turn R0 T0
          have f := M.frozen 4
          have c : w5.cell? ⟨w.heap.size + 1 + 1, 4, none⟩ = some (.int .u64 0) := M.cell 4
          have L5 := M.set (row' := #[.int .i64 (t : Int), .int .u32 (a1 : Int), .string (str a2), .string (str []), .int .u64 (a3 : Int)]) 4 (.int .u64 (a3 : Int)) rfl
          have d := L5.cell 0
          simp only [List.getElem?_toArray, List.getElem?_cons_zero] at d
          clear L4 R0 T0 M k3
          go_wp2_with fail
          refine (unhide ke _ L5.rd).mono ?_
          rintro e w6 ⟨rfl, rfl⟩
          clear ke
          have q0 := L5.res
          have q1 := L5.x
          have hb := L5.below
          clear d
          have hA := unhide HA
          rw [if_pos hE] at hA
          subst hA
          have hE' : (E != 0) = true := by simp [hE]
          clear hE HA L5
          go_wp2_with (refine wpList_store_row rfl 29 (.tmp 2) (.tmp 56) rfl w.heap.size Fl.zero.cells rfl rfl 29 _ q0 iz rfl oz ?_)
          exact bodyPost_ret (results_row_tmp rfl _ _ w.heap.size _ _ _ _ rfl (setRow_heap _ _ _ _ _ _ q0) Try.underlying29 rfl iz) rfl ⟨rfl, below_setRow hb (Nat.le_refl _) _⟩
end Go.Proofs.Ytlanplknendmaaa

namespace Go.Proofs.Ytlanplknendmaaa
open Go.RowKit
set_option linter.unusedSimpArgs false
set_option linter.unusedVariables false

set_option maxRecDepth 100000 in
theorem pSame_calls (p q : Pl) (w : World) :
    Calls Try.prog 20 #[p.val, q.val] w fun e w' => e = .returned (.bool (pPSame p q)) ∧ Below w.heap.size w w' := by
  have k := hide fun W => psame_calls p q W
  generalize p.val = V at *
  generalize q.val = U at *
  generalize pPSame p q = R at *
  go_enter Try.func20, Try.ntmps20
  go_wp2_with fail
  refine (unhide k _).mono ?_
  rintro e w1 ⟨rfl, b1⟩
  go_wp2
  go_ret
  exact ⟨rfl, b1⟩
theorem pl_says (l : List UInt8) : (if (pPRead l).2 != 0 then true else if (pPRead l).1.bytes.2 == 0 then decide ((pPRead l).1.bytes.1 = l) else false) = true := by
  by_cases h : (pPRead l).2 = 0
  · simp [h, pl_read l h]
  · simp [h]
set_option maxHeartbeats 4000000 in
set_option maxRecDepth 100000 in
theorem payloadBack_walk (x : Ax) (ok : x.ok) (s : List UInt8) (hs : s.length ≤ maxLen) (w : World) :
    Calls Try.prog 5 #[.agg x.cells, .string (str s)] w fun e w' => e = .returned (.bool true) ∧ Below w.heap.size w w' := by
  unfold maxLen at hs
  have A := hide pawake_calls
  have Li := fun W => plight_calls x W
  have hi := ax_info x
  have hb0 := (Below.refl w.heap.size w).alloc (Nat.le_refl _) (.cells x.cells 25)
  have q0 := al1 w (.cells x.cells 25)
  have z0 : w.heap.size < (w.alloc (.cells x.cells 25)).heap.size := by simp
  by_cases hL : (if x.a.length ≤ 2000 then decide (x.b.length ≤ 2000) else false) = true
  · rw [hL] at Li
    have hl : x.a.length ≤ 2000 ∧ x.b.length ≤ 2000 := by
      by_cases a1 : x.a.length ≤ 2000 <;> simp [a1] at hL <;> omega
    have LI := hide Li
    by_cases hs5 : s.length ≤ 5000
    · have hs7 : decide (5000 < (s.length : Int)) = false := by simp; omega
      have T := hide fun W => to_calls x ok W
      have pok := x.pl_ok ok
      have pm := x.pl_most 2000 hl.1 hl.2
      have B := hide fun W => pbytes_calls x.pl pok (x.pl.most_mono (by decide) pm) W
      obtain ⟨rok, rm⟩ := pPRead_ok s
      have hsay := pl_says s
      have C := hide fun W => pread_calls s (by omega) W
      have D := hide fun W => pbytes_calls (pPRead s).1 rok (Pl.most_mono (by omega) _ rm) W
      have hback := pl_back x.pl pok
      have F := fun h W => pread_calls x.pl.bytes.1 h W
      have hbl : x.pl.bytes.1.length ≤ 4611686018427387904 := by
        have := fields_len x.pl (x.pl.most_mono (by decide) pm)
        unfold Pl.bytes
        split
        · simp
        · split
          · simp only [List.length_append, pBig_length]; omega
          · simp
      have F := F hbl
      have E := fun W => pSame_calls x.pl x.pl W
      have hE := pPSame_self x.pl
      generalize (pPRead s).1.bytes = z at *
      generalize pPRead s = y at *
      obtain ⟨y1, y2⟩ := y
      obtain ⟨z1, z2⟩ := z
      simp only at *
      generalize y1.val = Y at *
      have HS := hide hsay
      have tail : ∀ wi, Hid (Below w.heap.size w wi) → True := fun _ _ => trivial
      clear hL hl hsay Li hs pm pok rok rm hbl tail
      by_cases he : x.pl.bytes.2 = 0
      · obtain ⟨hb1, hb2⟩ := hback he
        rw [hb1] at F
        rw [hE hb2] at E
        have he' : (x.pl.bytes.2 == 0) = true := by simp [he]
        have HF := hide F
        have HE := hide E
        generalize x.pl.bytes = v at *
        obtain ⟨v1, v2⟩ := v
        simp only at *
        generalize x.pl.val = V at *
        generalize x.cells = X at *
        clear hback hb1 hb2 F E hE he hs5
        go_enter Try.func5, Try.ntmps5
        go_wp2_with fail
        refine (unhide A _).mono ?_
        rintro e w1 ⟨rfl, b1⟩
        have q1 := Below.at b1 z0 q0
        have hb1 := hb0.trans (b1.mono hb0.size)
        clear hb0 q0 z0 b1
        go_wp2_with (refine wpList_load_row rfl 25 (.tmp 2) rfl w.heap.size rfl 25 X (0, 0) _ q1 Try.underlying25 rfl hi ?_)
        refine (unhide LI _).mono ?_
        rintro e w2 ⟨rfl, b2⟩
        have q2 := Below.at b2 (Array.getElem?_eq_some_iff.1 q1).1 q1
        have hb2 := hb1.trans (b2.mono hb1.size)
        clear q1 hb1 b2
        go_wp2_with (refine wpList_load_row rfl 25 (.tmp 2) rfl w.heap.size rfl 25 X (0, 0) _ q2 Try.underlying25 rfl hi ?_)
        refine (unhide T _).mono ?_
        rintro e w3 ⟨rfl, b3⟩
        have hb3 := hb2.trans (b3.mono hb2.size)
        clear q2 hb2 b3
        go_wp2_with fail
        refine (unhide B _).mono ?_
        rintro e w4 ⟨rfl, b4⟩
        have hb4 := hb3.trans (b4.mono hb3.size)
        clear hb3 b4
        go_wp2_with fail
        refine (unhide HF _).mono ?_
        rintro e w5 ⟨rfl, b5⟩
        have hb5 := hb4.trans (b5.mono hb4.size)
        clear hb4 b5
        go_wp2_with fail
        refine (unhide HE _).mono ?_
        rintro e w6 ⟨rfl, b6⟩
        have hb6 := hb5.trans (b6.mono hb5.size)
        clear hb5 b6
        go_wp2_with fail
        refine (unhide C _).mono ?_
        rintro e w7 ⟨rfl, b7⟩
        have hb7 := hb6.trans (b7.mono hb6.size)
        clear hb6 b7
        go_wp2_with fail
        refine (unhide D _).mono ?_
        rintro e w8 ⟨rfl, b8⟩
        have hb8 := hb7.trans (b8.mono hb7.size)
        clear hb7 b8
        go_wp2_with fail
        refine (unhide A _).mono ?_
        rintro e w9 ⟨rfl, b9⟩
        have hb9 := hb8.trans (b9.mono hb8.size)
        clear hb8 b9
        have hsay := unhide HS
        cases e1 : (y2 != 0) with
        | true =>
          go_wp2_with fail
          go_ret
          exact ⟨rfl, hb9⟩
        | false =>
          rw [e1] at hsay
          cases e2 : (z2 == 0) with
          | true =>
            rw [e2] at hsay
            have e3 : z1 = s := by simpa using hsay
            have e4 : ((str z1).toList == (str s).toList) = true := by rw [e3]; simp
            clear hsay
            go_wp2_with fail
            go_ret
            exact ⟨rfl, hb9⟩
          | false =>
            rw [e2] at hsay
            simp at hsay
      · have he' : (x.pl.bytes.2 == 0) = false := by simp [he]
        generalize x.pl.bytes = v at *
        obtain ⟨v1, v2⟩ := v
        simp only at *
        generalize x.pl.val = V at *
        generalize x.cells = X at *
        clear hback F E hE he hs5
        go_enter Try.func5, Try.ntmps5
        go_wp2_with fail
        refine (unhide A _).mono ?_
        rintro e w1 ⟨rfl, b1⟩
        have q1 := Below.at b1 z0 q0
        have hb1 := hb0.trans (b1.mono hb0.size)
        clear hb0 q0 z0 b1
        go_wp2_with (refine wpList_load_row rfl 25 (.tmp 2) rfl w.heap.size rfl 25 X (0, 0) _ q1 Try.underlying25 rfl hi ?_)
        refine (unhide LI _).mono ?_
        rintro e w2 ⟨rfl, b2⟩
        have q2 := Below.at b2 (Array.getElem?_eq_some_iff.1 q1).1 q1
        have hb2 := hb1.trans (b2.mono hb1.size)
        clear q1 hb1 b2
        go_wp2_with (refine wpList_load_row rfl 25 (.tmp 2) rfl w.heap.size rfl 25 X (0, 0) _ q2 Try.underlying25 rfl hi ?_)
        refine (unhide T _).mono ?_
        rintro e w3 ⟨rfl, b3⟩
        have hb3 := hb2.trans (b3.mono hb2.size)
        clear q2 hb2 b3
        go_wp2_with fail
        refine (unhide B _).mono ?_
        rintro e w4 ⟨rfl, b4⟩
        have hb4 := hb3.trans (b4.mono hb3.size)
        clear hb3 b4
        go_wp2_with fail
        refine (unhide C _).mono ?_
        rintro e w7 ⟨rfl, b7⟩
        have hb7 := hb4.trans (b7.mono hb4.size)
        clear hb4 b7
        go_wp2_with fail
        refine (unhide D _).mono ?_
        rintro e w8 ⟨rfl, b8⟩
        have hb8 := hb7.trans (b8.mono hb7.size)
        clear hb7 b8
        go_wp2_with fail
        refine (unhide A _).mono ?_
        rintro e w9 ⟨rfl, b9⟩
        have hb9 := hb8.trans (b9.mono hb8.size)
        clear hb8 b9
        have hsay := unhide HS
        cases e1 : (y2 != 0) with
        | true =>
          go_wp2_with fail
          go_ret
          exact ⟨rfl, hb9⟩
        | false =>
          rw [e1] at hsay
          cases e2 : (z2 == 0) with
          | true =>
            rw [e2] at hsay
            have e3 : z1 = s := by simpa using hsay
            have e4 : ((str z1).toList == (str s).toList) = true := by rw [e3]; simp
            clear hsay
            go_wp2_with fail
            go_ret
            exact ⟨rfl, hb9⟩
          | false =>
            rw [e2] at hsay
            simp at hsay
    · have hs5' : 5000 < s.length := by omega
      have hs7 : decide (5000 < (s.length : Int)) = true := by simp; omega
      generalize x.cells = X at *
      clear hL hl Li hs5 ok hs
      go_enter Try.func5, Try.ntmps5
      go_wp2_with fail
      refine (unhide A _).mono ?_
      rintro e w1 ⟨rfl, b1⟩
      have q1 := Below.at b1 z0 q0
      have hb1 := hb0.trans (b1.mono hb0.size)
      go_wp2_with (refine wpList_load_row rfl 25 (.tmp 2) rfl w.heap.size rfl 25 X (0, 0) _ q1 Try.underlying25 rfl hi ?_)
      refine (unhide LI _).mono ?_
      rintro e w2 ⟨rfl, b2⟩
      go_wp2_with fail
      refine (unhide A _).mono ?_
      rintro e w3 ⟨rfl, b3⟩
      go_wp2_with fail
      go_ret
      have hb2 := hb1.trans (b2.mono hb1.size)
      exact ⟨rfl, hb2.trans (b3.mono hb2.size)⟩
  · rw [Bool.not_eq_true] at hL
    rw [hL] at Li
    have LI := hide Li
    generalize x.cells = X at *
    clear Li hL ok
    go_enter Try.func5, Try.ntmps5
    go_wp2_with fail
    refine (unhide A _).mono ?_
    rintro e w1 ⟨rfl, b1⟩
    have q1 := Below.at b1 z0 q0
    have hb1 := hb0.trans (b1.mono hb0.size)
    go_wp2_with (refine wpList_load_row rfl 25 (.tmp 2) rfl w.heap.size rfl 25 X (0, 0) _ q1 Try.underlying25 rfl hi ?_)
    refine (unhide LI _).mono ?_
    rintro e w2 ⟨rfl, b2⟩
    go_wp2_with fail
    refine (unhide A _).mono ?_
    rintro e w3 ⟨rfl, b3⟩
    go_wp2_with fail
    go_ret
    have hb2 := hb1.trans (b2.mono hb1.size)
    exact ⟨rfl, hb2.trans (b3.mono hb2.size)⟩
end Go.Proofs.Ytlanplknendmaaa
