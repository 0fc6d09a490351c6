/-
  A TEXT AS ITS RUNES AND STRAYS, ONE BEHIND THE OTHER, EACH WITH ITS BYTES. Plain definitions and lemmas.
-/
import Derived.Lib.MapLaws
import Derived.Lib.TrimUEq
namespace Go.Proofs.Ytlanplknendmaaa
open Go
set_option linter.unusedSimpArgs false
set_option linter.unusedVariables false

/-- A rune's number (none of a stray), and the bytes. -/
abbrev Tok := Option Nat × List UInt8
def headTok (l : List UInt8) : Tok := (if (Lib.decodeL l).1 = 65533 ∧ (Lib.decodeL l).2 = 1 then none else some (Lib.decodeL l).1, l.take (Lib.decodeL l).2)
def tkF : Nat → List UInt8 → List Tok
  | 0, _ => []
  | f + 1, l => if l = [] then [] else headTok l :: tkF f (l.drop (Lib.decodeL l).2)
def tk (l : List UInt8) : List Tok := tkF l.length l
def flat (ts : List Tok) : List UInt8 := ts.flatMap (·.2)
@[simp] theorem flat_nil : flat [] = [] := rfl
@[simp] theorem flat_cons (t : Tok) (ts : List Tok) : flat (t :: ts) = t.2 ++ flat ts := by simp [flat]
theorem flat_append (a b : List Tok) : flat (a ++ b) = flat a ++ flat b := by simp [flat]

theorem tkF_nil (f : Nat) : tkF f [] = [] := by cases f <;> simp [tkF]
theorem tkF_more : ∀ (f g : Nat) (l : List UInt8), l.length ≤ f → l.length ≤ g → tkF f l = tkF g l
  | 0, g, l, hf, hg => by
    have : l = [] := List.eq_nil_of_length_eq_zero (by omega)
    subst this; simp [tkF, tkF_nil]
  | f + 1, 0, l, hf, hg => by
    have : l = [] := List.eq_nil_of_length_eq_zero (by omega)
    subst this; simp [tkF]
  | f + 1, g + 1, l, hf, hg => by
    unfold tkF
    split
    · rfl
    · rename_i hne
      have hw := Lib.decodeL_width l
      rw [tkF_more f g _ (by rw [List.length_drop]; omega) (by rw [List.length_drop]; omega)]
theorem tk_nil : tk [] = [] := rfl
theorem tk_cons (l : List UInt8) (h : l ≠ []) : tk l = headTok l :: tk (l.drop (Lib.decodeL l).2) := by
  have hl : 0 < l.length := List.length_pos_iff.2 h
  have hw := Lib.decodeL_width l
  unfold tk
  obtain ⟨n, hn⟩ : ∃ n, l.length = n + 1 := ⟨l.length - 1, by omega⟩
  rw [hn, show tkF (n + 1) l = headTok l :: tkF n (l.drop (Lib.decodeL l).2) from by simp [tkF, h]]
  rw [tkF_more n (l.drop (Lib.decodeL l).2).length _ (by rw [List.length_drop]; omega) (Nat.le_refl _)]
theorem flat_tk : ∀ (n : Nat) (l : List UInt8), l.length ≤ n → flat (tk l) = l
  | 0, l, h => by
    have : l = [] := List.eq_nil_of_length_eq_zero (by omega)
    subst this; rfl
  | n + 1, l, h => by
    by_cases h0 : l = []
    · subst h0; rfl
    · have hw := Lib.decodeL_width l
      have hl : 0 < l.length := List.length_pos_iff.2 h0
      rw [tk_cons l h0, flat_cons, flat_tk n _ (by rw [List.length_drop]; omega)]
      exact List.take_append_drop _ _
theorem flat_of_tk (l : List UInt8) : flat (tk l) = l := flat_tk _ l (Nat.le_refl _)

/-- Each begins where the one ahead of it ends. -/
def Good : List Tok → Prop
  | [] => True
  | t :: ts => t.2 ≠ [] ∧ headTok (t.2 ++ flat ts) = t ∧ Good ts
theorem headTok_width (t : Tok) (x : List UInt8) (hne : t.2 ++ x ≠ []) (h : headTok (t.2 ++ x) = t) : (Lib.decodeL (t.2 ++ x)).2 = t.2.length := by
  have h2 := congrArg (fun t => t.2.length) h
  simp only [headTok, List.length_take] at h2
  have := Lib.decodeL_le _ hne
  omega
theorem tk_flat : ∀ ts : List Tok, Good ts → tk (flat ts) = ts
  | [], _ => rfl
  | t :: ts, ⟨h1, h2, h3⟩ => by
    have hne : t.2 ++ flat ts ≠ [] := by simp [h1]
    rw [flat_cons, tk_cons _ hne, h2, headTok_width t _ hne h2]
    simp [tk_flat ts h3]
theorem good_tk : ∀ (n : Nat) (l : List UInt8), l.length ≤ n → Good (tk l)
  | 0, l, h => by
    have : l = [] := List.eq_nil_of_length_eq_zero (by omega)
    subst this; trivial
  | n + 1, l, h => by
    by_cases h0 : l = []
    · subst h0; trivial
    · have hw := Lib.decodeL_width l
      have hl : 0 < l.length := List.length_pos_iff.2 h0
      rw [tk_cons l h0]
      refine ⟨?_, ?_, good_tk n _ (by rw [List.length_drop]; omega)⟩
      · intro hc
        have hc' : l.take (Lib.decodeL l).2 = [] := hc
        have := congrArg List.length hc'
        rw [List.length_take, List.length_nil] at this
        omega
      · rw [flat_of_tk]
        show headTok (l.take _ ++ l.drop _) = _
        rw [List.take_append_drop]
theorem good_of_tk (l : List UInt8) : Good (tk l) := good_tk _ l (Nat.le_refl _)

/-! What a rune's bytes are, whatever follows. -/
theorem sh2 (n b0 b1 b2 b3 : Nat) (h0 : b0 / 32 = 6) (hn : 1 < n) (h1 : b1 / 64 = 2) (hv : 128 ≤ b0 % 32 * 64 + b1 % 64) : Lib.decodeN n b0 b1 b2 b3 = (b0 % 32 * 64 + b1 % 64, 2) := by
  unfold Lib.decodeN
  rw [if_neg (by omega), if_pos ⟨h0, hn, h1⟩, if_pos hv]
theorem sh3 (n b0 b1 b2 b3 : Nat) (h0 : b0 / 16 = 14) (hn : 2 < n) (h1 : b1 / 64 = 2) (h2 : b2 / 64 = 2) (hv : 2048 ≤ b0 % 16 * 4096 + b1 % 64 * 64 + b2 % 64) (hs : b0 % 16 * 4096 + b1 % 64 * 64 + b2 % 64 < 55296 ∨ 57344 ≤ b0 % 16 * 4096 + b1 % 64 * 64 + b2 % 64) : Lib.decodeN n b0 b1 b2 b3 = (b0 % 16 * 4096 + b1 % 64 * 64 + b2 % 64, 3) := by
  unfold Lib.decodeN
  rw [if_neg (by omega), if_neg (by omega), if_pos ⟨h0, ⟨by omega, h1⟩, hn, h2⟩, if_pos ⟨hv, by omega⟩]
theorem sh4 (n b0 b1 b2 b3 : Nat) (h0 : b0 / 8 = 30) (hn : 3 < n) (h1 : b1 / 64 = 2) (h2 : b2 / 64 = 2) (h3 : b3 / 64 = 2) (hv : 65536 ≤ b0 % 8 * 262144 + b1 % 64 * 4096 + b2 % 64 * 64 + b3 % 64) (hs : b0 % 8 * 262144 + b1 % 64 * 4096 + b2 % 64 * 64 + b3 % 64 ≤ 1114111) : Lib.decodeN n b0 b1 b2 b3 = (b0 % 8 * 262144 + b1 % 64 * 4096 + b2 % 64 * 64 + b3 % 64, 4) := by
  unfold Lib.decodeN
  rw [if_neg (by omega), if_neg (by omega), if_neg (by omega), if_pos ⟨h0, ⟨by omega, h1⟩, ⟨by omega, h2⟩, hn, h3⟩, if_pos ⟨hv, by omega⟩]
/-- A rune that was read, read again whatever follows. -/
theorem dec_local (l : List UInt8) (hne : l ≠ []) (hv : ¬ ((Lib.decodeL l).1 = 65533 ∧ (Lib.decodeL l).2 = 1)) (x : List UInt8) : Lib.decodeL (l.take (Lib.decodeL l).2 ++ x) = Lib.decodeL l := by
  have hl : 0 < l.length := List.length_pos_iff.2 hne
  rw [Lib.decodeL_N l] at hv ⊢
  rcases Lib.decodeN_shape l.length (l.getD 0 0).toNat (l.getD 1 0).toNat (l.getD 2 0).toNat (l.getD 3 0).toNat with ⟨c, e⟩ | ⟨c1, c2, c3, cv, e⟩ | ⟨c1, c2, c3, c4, cv, cs, e⟩ | ⟨c1, c2, c3, c4, c5, cv, cw, e⟩ | e
  · rw [e]; dsimp only
    rw [Lib.takeA l hl, Lib.decodeL_N]
    simp only [List.cons_append, List.nil_append, List.getD_cons_zero]
    exact Lib.decodeN_ascii _ _ _ _ _ c
  · rw [e]; dsimp only
    rw [Lib.takeB l c2, Lib.decodeL_N]
    simp only [List.cons_append, List.nil_append, List.getD_cons_zero, List.getD_cons_succ]
    exact sh2 _ _ _ _ _ c1 (by simp) c3 cv
  · rw [e]; dsimp only
    rw [Lib.takeC l c2, Lib.decodeL_N]
    simp only [List.cons_append, List.nil_append, List.getD_cons_zero, List.getD_cons_succ]
    exact sh3 _ _ _ _ _ c1 (by simp) c3 c4 cv cs
  · rw [e]; dsimp only
    rw [Lib.takeD l c2, Lib.decodeL_N]
    simp only [List.cons_append, List.nil_append, List.getD_cons_zero, List.getD_cons_succ]
    exact sh4 _ _ _ _ _ c1 (by simp) c3 c4 c5 cv cw
  · exact absurd ⟨by rw [e], by rw [e]⟩ hv
theorem tok_local (t : Tok) (x y : List UInt8) (hne : t.2 ≠ []) (hs : t.1 ≠ none) (h : headTok (t.2 ++ x) = t) : headTok (t.2 ++ y) = t := by
  have hne' : t.2 ++ x ≠ [] := by simp [hne]
  have hw := headTok_width t x hne' h
  have hv : ¬ ((Lib.decodeL (t.2 ++ x)).1 = 65533 ∧ (Lib.decodeL (t.2 ++ x)).2 = 1) := by
    intro hc
    apply hs
    have := congrArg (·.1) h
    simp only [headTok, if_pos hc] at this
    exact this.symm
  have hd := dec_local _ hne' hv y
  rw [hw, List.take_left] at hd
  unfold headTok at h ⊢
  rw [hd]
  refine Eq.trans ?_ h
  rw [hw]; simp
end Go.Proofs.Ytlanplknendmaaa
