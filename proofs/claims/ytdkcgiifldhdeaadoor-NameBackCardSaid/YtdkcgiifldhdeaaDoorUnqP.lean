/-
  A QUOTE READ AGAIN: pure facts.
-/
import Derived.Test.YtdkcgiifldhdeaaDoorNameRef6
import Derived.Test.YtdkcgiifldhdeaaDoorNameUtf8
import Derived.Test.YtdkcgiifldhdeaaDoorParse16
namespace Go.Proofs.YtdkcgiifldhdeaaDoor
open Go.RowKit
set_option linter.unusedSimpArgs false
set_option linter.unusedVariables false

/-- The bytes of a rune or a stray that is told by its number. -/
def numBytes (n : Nat) : List UInt8 := if 2000000 ≤ n then [UInt8.ofNat (n - 2000000)] else pUtf8 n
def NumOk (n : Nat) : Prop := validRune n ∨ (2000000 ≤ n ∧ n < 2000256)
theorem nums_step (m : List UInt8) (h : m ≠ []) : nums m = tokNum (headTok m) :: nums (m.drop (Lib.decodeL m).2) := by
  unfold nums; rw [tk_cons m h]; rfl
theorem head_bytes (m : List UInt8) (h : m ≠ []) : m.take (Lib.decodeL m).2 = numBytes (tokNum (headTok m)) ∧ NumOk (tokNum (headTok m)) := by
  by_cases s : (Lib.decodeL m).1 = 65533 ∧ (Lib.decodeL m).2 = 1
  · rw [tokNum_stray m (Prod.ext s.1 s.2)]
    have hb := (m.getD 0 0).toNat_lt
    refine ⟨?_, .inr ⟨by omega, by omega⟩⟩
    unfold numBytes
    rw [if_pos (by omega), s.2, Nat.add_sub_cancel_left, Lib.takeA m (List.length_pos_iff.2 h)]
    simp
  · have e := Lib.encode_decode m h s
    have hv := dec_valid m h s
    have hr := tokNum_rune m (Lib.decodeL m).1 (Lib.decodeL m).2 (Prod.eta _).symm (by
      by_cases h1 : (Lib.decodeL m).2 = 1
      · right; intro h2; exact s ⟨h2, h1⟩
      · exact .inl h1)
    rw [hr]
    refine ⟨?_, .inl hv⟩
    unfold numBytes
    rw [if_neg (by unfold validRune at hv; omega), pUtf8_enc _ hv]; exact e.symm
theorem flat_nums : ∀ (n : Nat) (l : List UInt8), l.length ≤ n → (nums l).flatMap numBytes = l ∧ ∀ x ∈ nums l, NumOk x
  | 0, l, h => by
    have : l = [] := List.eq_nil_of_length_eq_zero (by omega)
    subst this
    exact ⟨rfl, fun x hx => by cases hx⟩
  | n + 1, l, h => by
    by_cases hl : l = []
    · subst hl; exact ⟨rfl, fun x hx => by cases hx⟩
    · have hw := Lib.decodeL_width l
      have hla : 0 < l.length := List.length_pos_iff.2 hl
      obtain ⟨e1, e2⟩ := flat_nums n (l.drop (Lib.decodeL l).2) (by rw [List.length_drop]; omega)
      obtain ⟨h1, h2⟩ := head_bytes l hl
      rw [nums_step l hl]
      refine ⟨?_, ?_⟩
      · rw [List.flatMap_cons, e1, ← h1, List.take_append_drop]
      · intro x hx
        rcases List.mem_cons.1 hx with rfl | hx
        · exact h2
        · exact e2 x hx
theorem hexAll_pHex (n : Nat) : HexAll (pHex n) := fun c hc => by
  obtain ⟨d, hd, rfl⟩ := pHex_mem n c hc
  rw [hexv_hexd d hd]; exact hd
/-- What stands in a quote for a number. -/
theorem qNum_cases (n : Nat) (h : NumOk n) :
    (∃ b : UInt8, (b = 34 ∨ b = 92) ∧ qNum n = [92, b] ∧ numBytes n = [b]) ∨
    (∃ b : UInt8, b ≠ 92 ∧ qNum n = [b] ∧ numBytes n = [b]) ∨
    (∃ H m, HexAll H ∧ H ≠ [] ∧ H.length ≤ 6 ∧ hexFold 0 H = m ∧ validRune m ∧ qNum n = 92 :: 117 :: (H ++ [59]) ∧ numBytes n = pUtf8 m) ∨
    (∃ H m, HexAll H ∧ H ≠ [] ∧ H.length ≤ 6 ∧ hexFold 0 H = m ∧ m < 256 ∧ qNum n = 92 :: 120 :: (H ++ [59]) ∧ numBytes n = [UInt8.ofNat m]) := by
  have hsm : n < 128 → numBytes n = [UInt8.ofNat n] := fun h1 => by
    unfold numBytes pUtf8; rw [if_neg (by omega), if_pos h1]
  by_cases c1 : n = 34 ∨ n = 92
  · left
    refine ⟨UInt8.ofNat n, ?_, ?_, hsm (by omega)⟩
    · rcases c1 with rfl | rfl
      · exact .inl rfl
      · exact .inr rfl
    · unfold qNum; rw [if_pos c1]
  · right
    by_cases c2 : 32 ≤ n ∧ n ≤ 126
    · left
      refine ⟨UInt8.ofNat n, ?_, ?_, hsm (by omega)⟩
      · intro e
        have := congrArg UInt8.toNat e
        rw [UInt8.toNat_ofNat_of_lt' (by omega : n < 256)] at this
        have h92 : (92 : UInt8).toNat = 92 := rfl
        omega
      · unfold qNum; rw [if_neg c1, if_pos c2]
    · right
      by_cases c3 : 2000000 ≤ n
      · right
        have hm : n - 2000000 < 256 := by
          rcases h with h | h
          · unfold validRune at h; omega
          · omega
        have e1 : qNum n = [92, 120] ++ pHex (n - 2000000) ++ [59] := by unfold qNum; rw [if_neg c1, if_neg c2, if_pos c3]
        have e2 : numBytes n = [UInt8.ofNat (n - 2000000)] := by unfold numBytes; rw [if_pos c3]
        generalize n - 2000000 = z at *
        exact ⟨pHex z, z, hexAll_pHex z, pHex_ne z, pHex_len6 z (Nat.lt_trans hm (by decide)), pHex_val z (Nat.lt_trans hm (by decide)), hm, e1.trans (List.append_assoc _ _ _), e2⟩
      · left
        have hv : validRune n := by
          rcases h with h | h
          · exact h
          · omega
        have e1 : qNum n = [92, 117] ++ pHex n ++ [59] := by unfold qNum; rw [if_neg c1, if_neg c2, if_neg c3]
        have e2 : numBytes n = pUtf8 n := by unfold numBytes; rw [if_neg c3]
        have hv' : n < 1114112 := by unfold validRune at hv; omega
        exact ⟨pHex n, n, hexAll_pHex n, pHex_ne n, pHex_len6 n (by omega), pHex_val n (by omega), hv, e1.trans (List.append_assoc _ _ _), e2⟩
theorem qNum_pos (n : Nat) (h : NumOk n) : 0 < (qNum n).length := by
  rcases qNum_cases n h with ⟨b, _, e, _⟩ | ⟨b, _, e, _⟩ | ⟨H, m, _, _, _, _, _, e, _⟩ | ⟨H, m, _, _, _, _, _, e, _⟩ <;> rw [e] <;> simp
/-- What has been read, and what is left, of any text whose quote it is. -/
def Rd (s rest acc : List UInt8) : Prop := ∀ t, pQuote t = s → ∃ ys : List Nat, (∀ n ∈ ys, NumOk n) ∧ t = acc ++ ys.flatMap numBytes ∧ rest = ys.flatMap qNum
def RdD (s : List UInt8) (i : Nat) (acc : List UInt8) : Prop := ∀ t, pQuote t = s → ∃ ys : List Nat, (∀ n ∈ ys, NumOk n) ∧ t = acc ++ ys.flatMap numBytes ∧ s.drop i = ys.flatMap qNum ++ [34]
def PieceIs (l p : List UInt8) (k : Nat) : Prop := p.length ≤ 4 ∧ k ≤ l.length ∧ ∀ n tail, NumOk n → l = qNum n ++ tail → p = numBytes n ∧ k = (qNum n).length
theorem rd_start (s inner : List UInt8) (h : s = 34 :: (inner ++ [34])) : Rd s inner [] := by
  intro t ht
  obtain ⟨e1, e2⟩ := flat_nums _ t (Nat.le_refl _)
  refine ⟨nums t, e2, by rw [e1]; rfl, ?_⟩
  rw [pQuote_nums, h] at ht
  injection ht with _ ht
  exact ((List.append_inj' ht rfl).1).symm
theorem rdD_start (s : List UInt8) : RdD s 1 [] := by
  intro t ht
  obtain ⟨e1, e2⟩ := flat_nums _ t (Nat.le_refl _)
  refine ⟨nums t, e2, by rw [e1]; rfl, ?_⟩
  rw [← ht, pQuote_nums]; rfl
theorem rd_split {s rest acc : List UInt8} (h : Rd s rest acc) (hne : rest ≠ []) (t : List UInt8) (ht : pQuote t = s) :
    ∃ (n : Nat) (ys : List Nat), NumOk n ∧ (∀ n ∈ ys, NumOk n) ∧ t = acc ++ (numBytes n ++ ys.flatMap numBytes) ∧ rest = qNum n ++ ys.flatMap qNum := by
  obtain ⟨ys, h1, h2, h3⟩ := h t ht
  cases ys with
  | nil => exact absurd h3 hne
  | cons n ys => exact ⟨n, ys, h1 n (by simp), fun x hx => h1 x (by simp [hx]), h2, h3⟩
theorem rd_next {s rest acc p : List UInt8} {k : Nat} (h : Rd s rest acc) (hne : rest ≠ []) (hp : PieceIs rest p k) : Rd s (rest.drop k) (acc ++ p) := by
  intro t ht
  obtain ⟨n, ys, h1, h2, h3, h4⟩ := rd_split h hne t ht
  obtain ⟨e1, e2⟩ := hp.2.2 n _ h1 h4
  refine ⟨ys, h2, ?_, ?_⟩
  · rw [h3, e1, List.append_assoc]
  · rw [h4, e2]; simp
theorem rd_none {s rest acc p : List UInt8} (h : Rd s rest acc) (hne : rest ≠ []) (hp : PieceIs rest p 0) : ∀ t, pQuote t ≠ s := by
  intro t ht
  obtain ⟨n, ys, h1, h2, h3, h4⟩ := rd_split h hne t ht
  obtain ⟨e1, e2⟩ := hp.2.2 n _ h1 h4
  have := qNum_pos n h1
  omega
theorem rd_end {s acc : List UInt8} (h : Rd s [] acc) : ∀ t, pQuote t = s → t = acc := by
  intro t ht
  obtain ⟨ys, h1, h2, h3⟩ := h t ht
  cases ys with
  | nil => rw [h2]; simp
  | cons n ys =>
    have := qNum_pos n (h1 n (by simp))
    have e := congrArg List.length h3
    rw [List.flatMap_cons, List.length_append] at e
    simp at e; omega
/-- What a reader of quotes returns: the one text, or none. -/
def UnqIs (s r : List UInt8) (ok : Bool) : Prop := (ok = true ∧ pQuote r = s ∧ ∀ t, pQuote t = s → t = r) ∨ (ok = false ∧ r = [] ∧ ∀ t, pQuote t ≠ s)
theorem unq_one {s r r' : List UInt8} {ok ok' : Bool} (h : UnqIs s r ok) (h' : UnqIs s r' ok') : r = r' ∧ ok = ok' := by
  rcases h with ⟨rfl, h1, h2⟩ | ⟨rfl, rfl, h2⟩ <;> rcases h' with ⟨rfl, h3, h4⟩ | ⟨rfl, rfl, h4⟩
  · exact ⟨h4 r h1, rfl⟩
  · exact absurd h1 (h4 r)
  · exact absurd h3 (h2 r')
  · exact ⟨rfl, rfl⟩
theorem utf8_str (n : Nat) (h : validRune n) : Utf8.encode (n : Int) = str (pUtf8 n) := by
  have hv : Utf8.valid (n : Int) = true := by
    unfold validRune at h; unfold Utf8.valid; simp; omega
  unfold Utf8.encode pUtf8 str
  simp only [hv, if_true, Int.toNat_natCast]
  by_cases c1 : n < 128
  · simp only [if_pos c1]
  · simp only [if_neg c1]
    by_cases c2 : n < 2048
    · simp only [if_pos c2]
    · simp only [if_neg c2]
      by_cases c3 : n < 65536
      · simp only [if_pos c3]
      · simp only [if_neg c3]
theorem utf8_size (n : Int) : (Utf8.encode n).data.toList.length ≤ 4 := by
  rw [size_list]
  unfold Utf8.encode
  simp only
  generalize (if Utf8.valid n = true then n.toNat else Utf8.runeError) = c
  split
  · show 1 ≤ 4; omega
  · split
    · show 2 ≤ 4; omega
    · split
      · show 3 ≤ 4; omega
      · show 4 ≤ 4; omega
end Go.Proofs.YtdkcgiifldhdeaaDoor
