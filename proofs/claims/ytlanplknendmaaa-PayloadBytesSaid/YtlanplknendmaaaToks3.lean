/-
  WHAT name's FUNCTIONS ANSWER, SAID OF RUNES AND STRAYS; names fold to themselves, may be said, and are names when cut. Plain lemmas.
-/
import Derived.Test.YtlanplknendmaaaToks2
import Derived.Test.YtlanplknendmaaaNameFold
import Derived.Test.YtlanplknendmaaaNameRight
import Derived.Test.YtlanplknendmaaaNameSays
namespace Go.Proofs.Ytlanplknendmaaa
open Go
set_option linter.unusedSimpArgs false
set_option linter.unusedVariables false

theorem enc_fffd : Lib.encodeRune ((65533 : Nat) : Int) = [239, 191, 189] := by decide
theorem pStray_iff (l : List UInt8) (pos : Nat) (hne : l.drop pos ≠ []) : pStray l pos (Lib.decodeL (l.drop pos)).1 = true ↔ ((Lib.decodeL (l.drop pos)).1 = 65533 ∧ (Lib.decodeL (l.drop pos)).2 = 1) := by
  unfold pStray
  generalize hm : l.drop pos = m at *
  simp only [Bool.and_eq_true, beq_iff_eq, Bool.not_eq_true', Lib.hasPrefix, List.isPrefixOf_iff_prefix, ← Bool.not_eq_true]
  constructor
  · rintro ⟨h1, h2⟩
    refine ⟨h1, ?_⟩
    by_cases hw : (Lib.decodeL m).2 = 1
    · exact hw
    · exfalso
      have he := Lib.encode_decode m hne (fun hc => hw hc.2)
      rw [h1, enc_fffd] at he
      exact h2 ⟨m.drop (Lib.decodeL m).2, by rw [he]; exact List.take_append_drop _ _⟩
  · rintro ⟨h1, h2⟩
    refine ⟨h1, ?_⟩
    rintro ⟨t, ht⟩
    have hd := dec_enc 65533 (by unfold validRune; omega) t
    rw [enc_fffd, ht] at hd
    rw [hd] at h2
    cases h2
/-- What a range hands out, as a rune or a stray. -/
def tokOf (l : List UInt8) (x : Nat × Nat) : Tok := (if pStray l x.1 x.2 then none else some x.2, (l.drop x.1).take (Lib.decodeL (l.drop x.1)).2)
theorem itemsFrom_tok (l : List UInt8) : ∀ (fuel pos : Nat), (itemsFrom (str l) fuel pos).map (tokOf l) = tkF fuel (l.drop pos)
  | 0, pos => rfl
  | f + 1, pos => by
    unfold itemsFrom tkF
    by_cases hp : pos < (str l).size
    · have hne : l.drop pos ≠ [] := by rw [str_size] at hp; simp; omega
      have hd : Lib.decodeL (l.drop pos) = Utf8.decode (str l) pos := by rw [← Lib.decodeL_drop, str_toList]
      rw [if_pos hp, if_neg hne, List.map_cons, itemsFrom_tok l f, ← hd, List.drop_drop]
      congr 1
      unfold tokOf headTok
      simp only
      congr 1
      by_cases hc : (Lib.decodeL (l.drop pos)).1 = 65533 ∧ (Lib.decodeL (l.drop pos)).2 = 1
      · rw [if_pos hc, if_pos ((pStray_iff l pos hne).2 hc)]
      · rw [if_neg hc, if_neg (fun h => hc ((pStray_iff l pos hne).1 h))]
    · have hn : l.drop pos = [] := by rw [str_size] at hp; simp; omega
      rw [if_neg hp, if_pos hn]; rfl
theorem items_tok (l : List UInt8) : (items l).map (tokOf l) = tk l := by
  unfold items tk
  rw [itemsFrom_tok]; simp
theorem itemsFrom_mem (l : List UInt8) : ∀ (fuel pos : Nat), ∀ x ∈ itemsFrom (str l) fuel pos, x.1 < l.length ∧ x.2 = (Lib.decodeL (l.drop x.1)).1
  | 0, pos, x, h => by cases h
  | f + 1, pos, x, h => by
    unfold itemsFrom at h
    split at h
    · rename_i hp
      rcases List.mem_cons.1 h with rfl | h
      · refine ⟨by rw [str_size] at hp; exact hp, ?_⟩
        show (Utf8.decode (str l) pos).1 = _
        rw [← Lib.decodeL_drop, str_toList]
      · exact itemsFrom_mem l f _ x h
    · cases h
theorem items_mem (l : List UInt8) (x : Nat × Nat) (h : x ∈ items l) : x.1 < l.length ∧ x.2 = (Lib.decodeL (l.drop x.1)).1 := itemsFrom_mem l _ _ x h

def foldTok (t : Tok) : Tok := match t with
  | (none, bs) => (none, bs)
  | (some r, bs) => if pCapital r then (some (r + 32), Lib.encodeRune ((r : Int) + 32)) else (some r, bs)
theorem foldItem_tok (l : List UInt8) (x : Nat × Nat) (h : x ∈ items l) : foldItem l x = (foldTok (tokOf l x)).2 := by
  obtain ⟨h1, h2⟩ := items_mem l x h
  have hne : l.drop x.1 ≠ [] := by simp; omega
  unfold foldItem tokOf foldTok
  by_cases hs : pStray l x.1 x.2 = true
  · simp only [if_pos hs]
    rw [h2] at hs
    have := (pStray_iff l x.1 hne).1 hs
    rw [this.2, List.drop_eq_getElem_cons h1, List.take_succ_cons, List.take_zero, List.getD_eq_getElem?_getD, List.getElem?_eq_getElem h1]; rfl
  · simp only [if_neg hs]
    by_cases hc : pCapital x.2 = true
    · simp only [if_pos hc]
    · simp only [if_neg hc]
      rw [h2] at hs ⊢
      exact Lib.encode_decode _ hne (fun hh => hs ((pStray_iff l x.1 hne).2 hh))
theorem pFold_tok (l : List UInt8) : pFold l = flat ((tk l).map foldTok) := by
  unfold pFold flat
  rw [← items_tok, List.map_map, List.flatMap_def, List.flatMap_def, List.map_map]
  congr 1
  apply List.map_congr_left
  intro x hx
  exact foldItem_tok l x hx
theorem pStrays_tok (l : List UInt8) : pStrays l = ((tk l).filter fun t => t.1.isNone).length := by
  unfold pStrays
  rw [← items_tok, List.filter_map, List.length_map]
  congr 1
  apply List.filter_congr
  intro x hx
  simp only [Function.comp_apply, tokOf]
  cases pStray l x.1 x.2 <;> simp
theorem pRunes_tok (l : List UInt8) : pRunes l = ((tk l).filter fun t => t.1.isSome).length := by
  unfold pRunes
  rw [← items_tok, List.filter_map, List.length_map]
  congr 1
  apply List.filter_congr
  intro x hx
  simp only [Function.comp_apply, tokOf]
  cases pStray l x.1 x.2 <;> simp
def nameTok (i : Nat) (t : Tok) : Bool := match t.1 with
  | none => false
  | some r => nameRune i r
def nameToks : Nat → List Tok → Bool
  | _, [] => true
  | i, t :: ts => nameTok i t && nameToks (i + 1) ts
theorem nameFrom_tok (l : List UInt8) : ∀ (xs : List (Nat × Nat)) (i : Nat), (∀ x ∈ xs, x ∈ items l) → nameFrom i xs = nameToks i (xs.map (tokOf l))
  | [], i, _ => rfl
  | x :: xs, i, h => by
    unfold nameFrom
    rw [List.map_cons]
    unfold nameToks
    rw [nameFrom_tok l xs (i + 1) (fun y hy => h y (by simp [hy]))]
    congr 1
    unfold nameTok tokOf
    by_cases hs : pStray l x.1 x.2 = true
    · simp only [if_pos hs]
      have : x.2 = 65533 := by
        unfold pStray at hs
        simp only [Bool.and_eq_true, beq_iff_eq] at hs
        exact hs.1
      rw [this]; simp [nameRune, pSmall, pDigit]
    · simp only [if_neg hs]
theorem pRight_tok (l : List UInt8) : pRight l = (nameToks 0 (tk l) && (decide (1 ≤ (tk l).length) && decide ((tk l).length ≤ 12))) := by
  unfold pRight
  rw [nameFrom_tok l _ 0 (fun _ h => h), items_tok, show (items l).length = (tk l).length by rw [← items_tok, List.length_map]]
def sayTok (t : Tok) : Bool := match t.1 with
  | none => false
  | some r => !decide (r < 32) && !(r == 127)
theorem pSays_tok (l : List UInt8) : pSays l = ((tk l).all sayTok && decide ((tk l).length ≤ 64)) := by
  unfold pSays
  rw [show (items l).length = (tk l).length by rw [← items_tok, List.length_map], ← items_tok, List.all_map]
  congr 2
  funext x
  simp only [Function.comp_apply, sayRune, sayTok, tokOf]
  cases pStray l x.1 x.2 <;> simp
theorem cap_valid (r : Nat) (h : pCapital r = true) : validRune (r + 32) ∧ pCapital (r + 32) = false := by
  simp [pCapital, validRune] at *
  omega
theorem enc_cast (r : Nat) : Lib.encodeRune ((r : Int) + 32) = Lib.encodeRune ((r + 32 : Nat) : Int) := by simp
theorem good_fold : ∀ ts : List Tok, Good ts → Good (ts.map foldTok) ∧ lead (flat (ts.map foldTok)) = lead (flat ts)
  | [], _ => ⟨trivial, rfl⟩
  | t :: ts, ⟨h1, h2, h3⟩ => by
    obtain ⟨g, e⟩ := good_fold ts h3
    rw [List.map_cons, flat_cons, flat_cons]
    by_cases hs : t.1 = none
    · obtain ⟨b, rfl⟩ := tok_none t _ h1 h2 hs
      have hd := (stray_tok b _).1 h2
      refine ⟨⟨by simp [foldTok], ?_, g⟩, ?_⟩
      · exact (stray_tok b _).2 (stray_ctx b _ _ hd e.symm)
      · show (b :: flat _).takeWhile cont = (b :: flat _).takeWhile cont
        rw [List.takeWhile_cons, List.takeWhile_cons]
        split
        · congr 1
        · rfl
    · obtain ⟨o, bs⟩ := t
      cases o with
      | none => exact absurd rfl hs
      | some r =>
        by_cases hc : pCapital r = true
        · have ht : foldTok (some r, bs) = (some (r + 32), Lib.encodeRune ((r + 32 : Nat) : Int)) := by simp [foldTok, hc]
          have hv := (cap_valid r hc).1
          have hh := fun x => tok_enc (r + 32) hv x
          have hE := enc_ne ((r + 32 : Nat) : Int)
          rw [ht]
          clear ht hv hc
          generalize Lib.encodeRune ((r + 32 : Nat) : Int) = E at *
          generalize r + 32 = r2 at *
          refine ⟨⟨hE, hh _, g⟩, ?_⟩
          rw [rune_lead (some r, bs) _ _ h1 (by simp) h2, rune_lead (some r2, E) [] _ hE (by simp) (hh [])]
        · have ht : foldTok (some r, bs) = (some r, bs) := by simp [foldTok, hc]
          rw [ht]
          refine ⟨⟨h1, tok_local _ _ _ h1 (by simp) h2, g⟩, ?_⟩
          rw [rune_lead (some r, bs) _ _ h1 (by simp) h2, rune_lead (some r, bs) _ _ h1 (by simp) h2]
theorem tk_fold (l : List UInt8) : tk (pFold l) = (tk l).map foldTok := by
  rw [pFold_tok]
  exact tk_flat _ (good_fold _ (good_of_tk l)).1
theorem foldTok_twice (t : Tok) : foldTok (foldTok t) = foldTok t := by
  obtain ⟨o, bs⟩ := t
  cases o with
  | none => rfl
  | some r =>
    by_cases hc : pCapital r = true
    · have := (cap_valid r hc).2
      simp [foldTok, hc, this]
    · simp [foldTok, hc]
/-- A text that is folded twice is folded once. -/
theorem pFold_twice (l : List UInt8) : pFold (pFold l) = pFold l := by
  rw [pFold_tok (pFold l), tk_fold, List.map_map, pFold_tok l]
  congr 1
  apply List.map_congr_left
  intro t _
  exact foldTok_twice t
theorem name_toks : ∀ (ts : List Tok) (i : Nat), nameToks i ts = true → ∀ t ∈ ts, ∃ r, t.1 = some r ∧ (pSmall r = true ∨ pDigit r = true)
  | [], _, _, t, ht => by cases ht
  | t :: ts, i, h, x, hx => by
    unfold nameToks at h
    rw [Bool.and_eq_true] at h
    rcases List.mem_cons.1 hx with rfl | hx
    · have h1 := h.1
      unfold nameTok at h1
      split at h1
      · cases h1
      · rename_i r hr
        refine ⟨r, hr, ?_⟩
        simp only [nameRune, Bool.or_eq_true, Bool.and_eq_true] at h1
        rcases h1 with h1 | h1
        · exact .inl h1
        · exact .inr h1.2
    · exact name_toks ts (i + 1) h.2 x hx
theorem small_facts (r : Nat) (h : pSmall r = true ∨ pDigit r = true) : pCapital r = false ∧ 48 ≤ r ∧ r ≠ 127 ∧ r ≤ 969 := by
  simp [pSmall, pDigit, pCapital] at *
  omega
theorem right_parts (l : List UInt8) (h : pRight l = true) : nameToks 0 (tk l) = true ∧ 1 ≤ (tk l).length ∧ (tk l).length ≤ 12 := by
  rw [pRight_tok] at h
  simpa [Bool.and_eq_true] using h
/-- A name is as it is without capitals. -/
theorem right_fold (l : List UInt8) (h : pRight l = true) : pFold l = l := by
  obtain ⟨h1, _, _⟩ := right_parts l h
  have hn := name_toks _ _ h1
  rw [pFold_tok]
  have e : (tk l).map foldTok = tk l := by
    rw [List.map_congr_left (g := id), List.map_id]
    intro t ht
    obtain ⟨r, hr, hs⟩ := hn t ht
    have hf := (small_facts r hs).1
    obtain ⟨o, bs⟩ := t
    simp only at hr
    subst hr
    simp [foldTok, hf]
  rw [e, flat_of_tk]
theorem right_says (l : List UInt8) (h : pRight l = true) : pSays l = true := by
  obtain ⟨h1, _, h3⟩ := right_parts l h
  have hn := name_toks _ _ h1
  rw [pSays_tok, Bool.and_eq_true]
  refine ⟨List.all_eq_true.2 fun t ht => ?_, by simp; omega⟩
  obtain ⟨r, hr, hs⟩ := hn t ht
  have hf := small_facts r hs
  unfold sayTok
  rw [hr]
  simp
  omega
theorem right_ne (l : List UInt8) (h : pRight l = true) : 1 ≤ l.length := by
  obtain ⟨_, h2, _⟩ := right_parts l h
  cases l with
  | nil => rw [tk_nil] at h2; simp at h2
  | cons b l => simp
theorem name_take : ∀ (ts : List Tok) (i j : Nat), nameToks i ts = true → nameToks i (ts.take j) = true
  | [], i, j, _ => by simp [nameToks]
  | t :: ts, i, 0, _ => by simp [nameToks]
  | t :: ts, i, j + 1, h => by
    unfold nameToks at h
    rw [Bool.and_eq_true] at h
    rw [List.take_succ_cons]
    unfold nameToks
    rw [h.1, name_take ts (i + 1) j h.2]; rfl
theorem enc_len2 (r : Nat) (h : r ≤ 969) : (Lib.encodeRune (r : Int)).length ≤ 2 := by
  unfold Lib.encodeRune
  by_cases h1 : r ≤ 127
  · rw [Lib.encodeRuneZ_one (by omega) (by omega)]; simp
  · rw [Lib.encodeRuneZ_two (by omega) (by omega)]; simp
/-- A name that was cut is one, or a stray is left of a rune. -/
theorem cut_name : ∀ (ts : List Tok) (i k : Nat), Good ts → nameToks i ts = true → (∃ j, tk ((flat ts).take k) = ts.take j ∧ (0 < k → ts ≠ [] → 0 < j)) ∨ ∃ t ∈ tk ((flat ts).take k), t.1 = none
  | [], i, k, _, _ => by left; exact ⟨0, by simp [tk_nil], fun _ h => absurd rfl h⟩
  | t :: ts, i, k, ⟨h1, h2, h3⟩, hn => by
    obtain ⟨r, hr, hs⟩ := name_toks _ _ hn t (by simp)
    have hr969 := (small_facts r hs).2.2.2
    have hsn : t.1 ≠ none := by rw [hr]; simp
    have hne : t.2 ++ flat ts ≠ [] := by simp [h1]
    have hw := headTok_width t _ hne h2
    have hnv : ¬ ((Lib.decodeL (t.2 ++ flat ts)).1 = 65533 ∧ (Lib.decodeL (t.2 ++ flat ts)).2 = 1) := by
      intro hc
      apply hsn
      have := congrArg (·.1) h2
      simp only [headTok, if_pos hc] at this
      exact this.symm
    have hdr : (Lib.decodeL (t.2 ++ flat ts)).1 = r := by
      have := congrArg (·.1) h2
      simp only [headTok, if_neg hnv] at this
      rw [hr] at this
      exact Option.some.inj this
    have hen := Lib.encode_decode _ hne hnv
    rw [hdr, hw, List.take_left] at hen
    have hl2 := enc_len2 r hr969
    rw [hen] at hl2
    rw [flat_cons]
    by_cases hk : t.2.length ≤ k
    · have hx : (t.2 ++ flat ts).take k = t.2 ++ (flat ts).take (k - t.2.length) := by
        rw [List.take_append, List.take_of_length_le hk]
      have hh := tok_local t _ ((flat ts).take (k - t.2.length)) h1 hsn h2
      have hne2 : t.2 ++ (flat ts).take (k - t.2.length) ≠ [] := by simp [h1]
      have hw2 := headTok_width t _ hne2 hh
      rw [hx, tk_cons _ hne2, hh, hw2, List.drop_left]
      have hn2 : nameToks (i + 1) ts = true := by
        unfold nameToks at hn
        rw [Bool.and_eq_true] at hn
        exact hn.2
      rcases cut_name ts (i + 1) (k - t.2.length) h3 hn2 with ⟨j, hj, _⟩ | ⟨s, hs1, hs2⟩
      · left; exact ⟨j + 1, by rw [hj, List.take_succ_cons], fun _ _ => by omega⟩
      · right; exact ⟨s, by simp [hs1], hs2⟩
    · by_cases hk0 : k = 0
      · left; exact ⟨0, by simp [hk0, tk_nil], fun h => by omega⟩
      · right
        have hlen : t.2.length = 2 := by omega
        obtain ⟨o, bs⟩ := t
        match bs, hlen with
        | [b0, b1], _ =>
          have hk1 : k = 1 := by simp at hk; omega
          subst hk1
          have hb : 128 ≤ b0.toNat := by
            by_cases hb : b0.toNat < 128
            · exfalso
              have hd : Lib.decodeL ([b0, b1] ++ flat ts) = (b0.toNat, 1) := by
                rw [Lib.decodeL_N]; exact Lib.decodeN_ascii _ _ _ _ _ (by simpa using hb)
              have hw' : (Lib.decodeL ([b0, b1] ++ flat ts)).2 = 2 := hw
              rw [hd] at hw'; cases hw'
            · omega
          have hd : Lib.decodeL [b0] = (65533, 1) := by
            rw [Lib.decodeL_N]; exact Lib.decodeN_alone _ _ _ _ _ (by simpa using hb) (.inl (by simp))
          refine ⟨headTok [b0], ?_, ?_⟩
          · show headTok [b0] ∈ tk [b0]
            rw [tk_cons [b0] (by simp)]; simp
          · simp [headTok, hd]
theorem right_cut (l : List UInt8) (h : pRight l = true) (k : Nat) (hk : 1 ≤ k) : 0 < pStrays (l.take k) ∨ pRight (l.take k) = true := by
  obtain ⟨h1, h2, h3⟩ := right_parts l h
  have hc := cut_name (tk l) 0 k (good_of_tk l) h1
  rw [flat_of_tk] at hc
  rcases hc with ⟨j, hj, hj0⟩ | ⟨t, ht, hn⟩
  · right
    have hne : tk l ≠ [] := by intro h0; rw [h0] at h2; simp at h2
    have hjp := hj0 (by omega) hne
    rw [pRight_tok, hj, name_take _ _ _ h1]
    simp only [Bool.true_and, Bool.and_eq_true, decide_eq_true_eq, List.length_take]
    omega
  · left
    rw [pStrays_tok]
    exact List.length_pos_iff.2 (List.ne_nil_of_mem (List.mem_filter.2 ⟨ht, by simp [hn]⟩))
theorem good_len : ∀ ts : List Tok, Good ts → ts.length ≤ (flat ts).length
  | [], _ => by simp
  | t :: ts, ⟨h1, _, h3⟩ => by
    have := good_len ts h3
    have h1' : 0 < t.2.length := List.length_pos_iff.2 h1
    rw [flat_cons, List.length_append, List.length_cons]; omega
end Go.Proofs.Ytlanplknendmaaa
