/-
  WHAT THE DOCUMENT'S OWN Count, Right, Says OF LAYER 2 RETURN: what name's own answer.
-/
import Derived.Test.YtdkcgiifldhdeaaDoorNameRef
namespace Go.Proofs.YtdkcgiifldhdeaaDoor
open Go.RowKit
set_option linter.unusedSimpArgs false
set_option linter.unusedVariables false

theorem good_mem : ∀ ts : List Tok, Good ts → ∀ t ∈ ts, (∃ r, t.1 = some r ∧ validRune r) ∨ ∃ b, t = (none, [b])
  | [], _, t, h => by cases h
  | t :: ts, ⟨h1, h2, h3⟩, x, hx => by
    rcases List.mem_cons.1 hx with rfl | hx
    · by_cases hs : x.1 = none
      · exact .inr (tok_none x _ h1 h2 hs)
      · left
        have hne : x.2 ++ flat ts ≠ [] := by simp [h1]
        have hnv : ¬ ((Lib.decodeL (x.2 ++ flat ts)).1 = 65533 ∧ (Lib.decodeL (x.2 ++ flat ts)).2 = 1) := by
          intro hc
          apply hs
          have := congrArg (·.1) h2
          simp only [headTok, if_pos hc] at this
          exact this.symm
        refine ⟨(Lib.decodeL (x.2 ++ flat ts)).1, ?_, dec_valid _ hne hnv⟩
        have := congrArg (·.1) h2
        simp only [headTok, if_neg hnv] at this
        exact this.symm
    · exact good_mem ts h3 x hx
theorem tk_mem (l : List UInt8) (t : Tok) (h : t ∈ tk l) : (∃ r, t.1 = some r ∧ r ≤ 1114111) ∨ ∃ b, t = (none, [b]) := by
  rcases good_mem _ (good_of_tk l) t h with ⟨r, h1, h2⟩ | h
  · exact .inl ⟨r, h1, by unfold validRune at h2; omega⟩
  · exact .inr h
theorem tokNum_some (t : Tok) (r : Nat) (h : t.1 = some r) : tokNum t = r := by unfold tokNum; rw [h]
theorem tokNum_none (b : UInt8) : tokNum (none, [b]) = 2000000 + b.toNat := rfl
theorem tokNum_lt (l : List UInt8) (t : Tok) (h : t ∈ tk l) : decide (tokNum t < 2000000) = t.1.isSome ∧ tokNum t < 2000256 := by
  rcases tk_mem l t h with ⟨r, h1, h2⟩ | ⟨b, rfl⟩
  · rw [tokNum_some t r h1, h1]; simp; omega
  · rw [tokNum_none]; have := b.toNat_lt; simp; omega
theorem pRunes_nums (l : List UInt8) : pRunes l = ((nums l).filter fun n => decide (n < 2000000)).length := by
  rw [pRunes_tok, nums, List.filter_map, List.length_map]
  congr 1
  apply List.filter_congr
  intro t ht
  exact (tokNum_lt l t ht).1.symm
theorem pStrays_nums (l : List UInt8) : pStrays l = ((nums l).filter fun n => !decide (n < 2000000)).length := by
  rw [pStrays_tok, nums, List.filter_map, List.length_map]
  congr 1
  apply List.filter_congr
  intro t ht
  have := (tokNum_lt l t ht).1
  simp only [Function.comp_apply, this]
  cases t.1 <;> rfl
def nameNums : Nat → List Nat → Bool
  | _, [] => true
  | i, n :: ns => nameRune i n && nameNums (i + 1) ns
theorem nameToks_nums (l : List UInt8) : ∀ (ts : List Tok) (i : Nat), (∀ t ∈ ts, t ∈ tk l) → nameToks i ts = nameNums i (ts.map tokNum)
  | [], i, _ => rfl
  | t :: ts, i, h => by
    rw [List.map_cons]
    unfold nameToks nameNums
    rw [nameToks_nums l ts (i + 1) (fun x hx => h x (by simp [hx]))]
    congr 1
    rcases tk_mem l t (h t (by simp)) with ⟨r, h1, h2⟩ | ⟨b, rfl⟩
    · rw [tokNum_some t r h1]; unfold nameTok; rw [h1]
    · rw [tokNum_none]
      have := b.toNat_lt
      simp [nameTok, nameRune, pSmall, pDigit]
      omega
theorem pRight_nums (l : List UInt8) : pRight l = (nameNums 0 (nums l) && (decide (1 ≤ (nums l).length) && decide ((nums l).length ≤ 12))) := by
  rw [pRight_tok, nameToks_nums l _ 0 (fun _ h => h), nums_len]; rfl
def sayNum (n : Nat) : Bool := !decide (n < 32) && (!(n == 127) && decide (n < 2000000))
theorem pSays_nums (l : List UInt8) : pSays l = ((nums l).all sayNum && decide ((nums l).length ≤ 64)) := by
  rw [pSays_tok, nums_len]
  congr 1
  unfold nums
  rw [List.all_map]
  rw [Bool.eq_iff_iff, List.all_eq_true, List.all_eq_true]
  have key : ∀ t ∈ tk l, sayTok t = sayNum (tokNum t) := fun t ht => by
    rcases tk_mem l t ht with ⟨r, h1, h2⟩ | ⟨b, rfl⟩
    · rw [tokNum_some t r h1]; unfold sayTok sayNum; rw [h1]
      have : decide (r < 2000000) = true := by simp; omega
      simp [this]
    · rw [tokNum_none]
      have := b.toNat_lt
      simp [sayTok, sayNum]
  constructor
  · intro h t ht; show sayNum (tokNum t) = true; rw [← key t ht]; exact h t ht
  · intro h t ht; rw [key t ht]; exact h t ht
theorem nums_at (l : List UInt8) (j : Nat) (hj : j < (nums l).length) : (nums l).getD j 0 < 2000256 := by
  have : (nums l).getD j 0 ∈ nums l := by
    rw [List.getD_eq_getElem?_getD, List.getElem?_eq_getElem hj]; exact List.getElem_mem _
  unfold nums at this
  obtain ⟨t, ht, he⟩ := List.mem_map.1 this
  unfold nums
  rw [← he]; exact (tokNum_lt l t ht).2
set_option maxHeartbeats 1000000 in
theorem count_calls (l : List UInt8) (hl : l.length ≤ 1000000000) (w : World) :
    Calls Tryd.prog 11 #[.string (str l)] w fun e w' => e = .returned (.tuple #[.int .i64 (pRunes l : Int), .int .i64 (pStrays l : Int)]) ∧ Below w.heap.size w w' := by
  have hnum := numbers_calls l hl
  have hlen := nums_le l
  have hat := nums_at l
  rw [pRunes_nums, pStrays_nums]
  generalize nums l = xs at *
  have Hnum := hide hnum
  have Hat := hide hat
  clear hnum hat
  go_enter Tryd.func11, Tryd.ntmps11
  go_wp2_with fail
  refine (unhide Hnum _).mono ?_
  rintro e w1 ⟨v, rfl, hN, b1⟩
  obtain ⟨p, cap, rfl, hp⟩ := hN
  have Hp := hide hp
  clear hp Hnum
  go_wp2
  go_loopw [4, 5, 11] (fun a b i wr => ∃ j : Nat, j ≤ xs.length ∧ a = .int .i64 (((xs.take j).filter fun n => decide (n < 2000000)).length : Int) ∧ b = .int .i64 (((xs.take j).filter fun n => !decide (n < 2000000)).length : Int) ∧ i = .int .i64 (j : Int) ∧ wr = w1) (fun _ _ i _ => xs.length - (intOf i).toNat)
  case atStart => exact ⟨0, by omega, rfl, rfl, rfl, rfl⟩
  case round =>
    obtain ⟨j, hj, rfl, rfl, rfl, rfl⟩ := hrel
    by_cases hlt : j < xs.length
    · have hd : decide (j < xs.length) = true := by simpa using hlt
      have bk : (j : Int) < (xs.length : Int) := by omega
      obtain ⟨g, rfl, hg, hc⟩ := unhide Hp (by intro h0; rw [h0] at hlt; simp at hlt)
      have c := hc j hlt
      have hsn := take_snoc' xs j 0 hlt
      have hxb := unhide Hat j hlt
      have hl1 : ((xs.take j).filter fun n => decide (n < 2000000)).length ≤ j := Nat.le_trans (List.length_filter_le _ _) (by rw [List.length_take]; omega)
      have hl2 : ((xs.take j).filter fun n => !decide (n < 2000000)).length ≤ j := Nat.le_trans (List.length_filter_le _ _) (by rw [List.length_take]; omega)
      generalize xs.getD j 0 = x at *
      have hf1 : ((xs.take (j + 1)).filter fun n => decide (n < 2000000)).length = ((xs.take j).filter fun n => decide (n < 2000000)).length + (if x < 2000000 then 1 else 0) := by
        rw [hsn, List.filter_append, List.length_append]; by_cases h : x < 2000000 <;> simp [h]
      have hf2 : ((xs.take (j + 1)).filter fun n => !decide (n < 2000000)).length = ((xs.take j).filter fun n => !decide (n < 2000000)).length + (if x < 2000000 then 0 else 1) := by
        rw [hsn, List.filter_append, List.length_append]; by_cases h : x < 2000000 <;> simp [h]
      generalize ((xs.take j).filter fun n => decide (n < 2000000)).length = A at *
      generalize ((xs.take j).filter fun n => !decide (n < 2000000)).length = B at *
      have Hf1 := hide hf1
      have Hf2 := hide hf2
      clear hsn hf1 hf2 hc
      by_cases hx : x < 2000000
      · have dx : decide ((x : Int) < 2000000) = true := by simp; omega
        go_wp2
        go_roundw
        case rel =>
          have h1 := unhide Hf1
          have h2 := unhide Hf2
          rw [if_pos hx] at h1 h2
          exact ⟨j + 1, by omega, by rw [h1]; rfl, by rw [h2]; rfl, by go_num, trivial⟩
        case measure => simp [intOf]; omega
      · have dx : decide ((x : Int) < 2000000) = false := by simp; omega
        go_wp2
        go_roundw
        case rel =>
          have h1 := unhide Hf1
          have h2 := unhide Hf2
          rw [if_neg hx] at h1 h2
          exact ⟨j + 1, by omega, by rw [h1]; rfl, by rw [h2]; rfl, by go_num, trivial⟩
        case measure => simp [intOf]; omega
    · obtain rfl : j = xs.length := by omega
      have hd : decide (xs.length < xs.length) = false := by simp
      rw [List.take_length]
      go_wp2
      go_ret2
      exact ⟨rfl, b1⟩
end Go.Proofs.YtdkcgiifldhdeaaDoor
