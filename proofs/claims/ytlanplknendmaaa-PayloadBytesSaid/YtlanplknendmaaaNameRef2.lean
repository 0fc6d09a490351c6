/-
  WHAT THE DOCUMENT'S OWN Count, Right, Says OF LAYER 2 RETURN: what name's own answer.
-/
import Derived.Test.YtlanplknendmaaaNameRef
namespace Go.Proofs.Ytlanplknendmaaa
open Go.RowKit
set_option linter.unusedSimpArgs false
set_option linter.unusedVariables false

theorem good_mem : ∀ ts : List Tok, Good ts → ∀ t ∈ ts, (∃ r, t.1 = some r ∧ validRune r) ∨ ∃ b, t = (none, [b])
  | [], _, t, h => by cases h
  | t :: ts, ⟨h1, h2, h3⟩, x, hx => by
    rcases List.mem_cons.1 hx with rfl | hx
    · by_cases hs : x.1 = none
      · exact .inr (tok_none x _ h1 h2 hs)
      · left
        have hne : x.2 ++ flat ts ≠ [] := by simp [h1]
        have hnv : ¬ ((Lib.decodeL (x.2 ++ flat ts)).1 = 65533 ∧ (Lib.decodeL (x.2 ++ flat ts)).2 = 1) := by
          intro hc
          apply hs
          have := congrArg (·.1) h2
          simp only [headTok, if_pos hc] at this
          exact this.symm
        refine ⟨(Lib.decodeL (x.2 ++ flat ts)).1, ?_, dec_valid _ hne hnv⟩
        have := congrArg (·.1) h2
        simp only [headTok, if_neg hnv] at this
        exact this.symm
    · exact good_mem ts h3 x hx
theorem tk_mem (l : List UInt8) (t : Tok) (h : t ∈ tk l) : (∃ r, t.1 = some r ∧ r ≤ 1114111) ∨ ∃ b, t = (none, [b]) := by
  rcases good_mem _ (good_of_tk l) t h with ⟨r, h1, h2⟩ | h
  · exact .inl ⟨r, h1, by unfold validRune at h2; omega⟩
  · exact .inr h
theorem tokNum_some (t : Tok) (r : Nat) (h : t.1 = some r) : tokNum t = r := by unfold tokNum; rw [h]
theorem tokNum_none (b : UInt8) : tokNum (none, [b]) = 2000000 + b.toNat := rfl
theorem tokNum_lt (l : List UInt8) (t : Tok) (h : t ∈ tk l) : decide (tokNum t < 2000000) = t.1.isSome ∧ tokNum t < 2000256 := by
  rcases tk_mem l t h with ⟨r, h1, h2⟩ | ⟨b, rfl⟩
  · rw [tokNum_some t r h1, h1]; simp; omega
  · rw [tokNum_none]; have := b.toNat_lt; simp; omega
theorem pRunes_nums (l : List UInt8) : pRunes l = ((nums l).filter fun n => decide (n < 2000000)).length := by
  rw [pRunes_tok, nums, List.filter_map, List.length_map]
  congr 1
  apply List.filter_congr
  intro t ht
  exact (tokNum_lt l t ht).1.symm
theorem pStrays_nums (l : List UInt8) : pStrays l = ((nums l).filter fun n => !decide (n < 2000000)).length := by
  rw [pStrays_tok, nums, List.filter_map, List.length_map]
  congr 1
  apply List.filter_congr
  intro t ht
  have := (tokNum_lt l t ht).1
  simp only [Function.comp_apply, this]
  cases t.1 <;> rfl
def nameNums : Nat → List Nat → Bool
  | _, [] => true
  | i, n :: ns => nameRune i n && nameNums (i + 1) ns
theorem nameToks_nums (l : List UInt8) : ∀ (ts : List Tok) (i : Nat), (∀ t ∈ ts, t ∈ tk l) → nameToks i ts = nameNums i (ts.map tokNum)
  | [], i, _ => rfl
  | t :: ts, i, h => by
    rw [List.map_cons]
    unfold nameToks nameNums
    rw [nameToks_nums l ts (i + 1) (fun x hx => h x (by simp [hx]))]
    congr 1
    rcases tk_mem l t (h t (by simp)) with ⟨r, h1, h2⟩ | ⟨b, rfl⟩
    · rw [tokNum_some t r h1]; unfold nameTok; rw [h1]
    · rw [tokNum_none]
      have := b.toNat_lt
      simp [nameTok, nameRune, pSmall, pDigit]
      omega
theorem pRight_nums (l : List UInt8) : pRight l = (nameNums 0 (nums l) && (decide (1 ≤ (nums l).length) && decide ((nums l).length ≤ 12))) := by
  rw [pRight_tok, nameToks_nums l _ 0 (fun _ h => h), nums_len]; rfl
def sayNum (n : Nat) : Bool := !decide (n < 32) && (!(n == 127) && decide (n < 2000000))
theorem pSays_nums (l : List UInt8) : pSays l = ((nums l).all sayNum && decide ((nums l).length ≤ 64)) := by
  rw [pSays_tok, nums_len]
  congr 1
  unfold nums
  rw [List.all_map]
  rw [Bool.eq_iff_iff, List.all_eq_true, List.all_eq_true]
  have key : ∀ t ∈ tk l, sayTok t = sayNum (tokNum t) := fun t ht => by
    rcases tk_mem l t ht with ⟨r, h1, h2⟩ | ⟨b, rfl⟩
    · rw [tokNum_some t r h1]; unfold sayTok sayNum; rw [h1]
      have : decide (r < 2000000) = true := by simp; omega
      simp [this]
    · rw [tokNum_none]
      have := b.toNat_lt
      simp [sayTok, sayNum]
  constructor
  · intro h t ht; show sayNum (tokNum t) = true; rw [← key t ht]; exact h t ht
  · intro h t ht; rw [key t ht]; exact h t ht
theorem nums_at (l : List UInt8) (j : Nat) (hj : j < (nums l).length) : (nums l).getD j 0 < 2000256 := by
  have : (nums l).getD j 0 ∈ nums l := by
    rw [List.getD_eq_getElem?_getD, List.getElem?_eq_getElem hj]; exact List.getElem_mem _
  unfold nums at this
  obtain ⟨t, ht, he⟩ := List.mem_map.1 this
  unfold nums
  rw [← he]; exact (tokNum_lt l t ht).2
end Go.Proofs.Ytlanplknendmaaa
