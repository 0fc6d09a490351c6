/-
  A TEXT AS ITS RUNES AND STRAYS, ONE BEHIND THE OTHER, EACH WITH ITS BYTES. Plain definitions and lemmas.
-/
/-
  RUNES' BYTES READ AGAIN; STRAYS STAY STRAYS; WHAT A RANGE HANDS OUT AS RUNES AND STRAYS. Plain lemmas.
-/
/-
  THE LIBRARY'S CONTRACTS THAT THIS SEAT'S PROOFS USE, AT ITS OWN NUMBERS: strings.Builder, strings.Clone.
-/
/-
  WHAT name's Fold RETURNS.
-/
/-
  WHAT name's Right AND Says RETURN.
-/
/-
  WHAT name's Says RETURNS.
-/
/-
  WHAT name's FUNCTIONS ANSWER, SAID OF RUNES AND STRAYS; names fold to themselves, may be said, and are names when cut. Plain lemmas.
-/
/-
  WHAT THE DOCUMENT'S OWN DECODER OF LAYER 2 RETURNS: within, One.
-/
import Derived.Lib.MapLaws
import Derived.Lib.TrimUEq
import Derived.Test.YtjfnaedcdmmigaaDoorJ0
import Derived.Shelf.Strings.BuilderK
import Derived.Shelf.Strings.BuilderRune
import Derived.Shelf.Strconv.Clone
import Derived.Test.YtjfnaedcdmmigaaDoorProg
import Derived.WalkKit
import Derived.Lib.DecodeN
namespace Go.Proofs.YtjfnaedcdmmigaaDoor
open Go
set_option linter.unusedSimpArgs false
set_option linter.unusedVariables false

/-- A rune's number (none of a stray), and the bytes. -/
abbrev Tok := Option Nat × List UInt8
def headTok (l : List UInt8) : Tok := (if (Lib.decodeL l).1 = 65533 ∧ (Lib.decodeL l).2 = 1 then none else some (Lib.decodeL l).1, l.take (Lib.decodeL l).2)
def tkF : Nat → List UInt8 → List Tok
  | 0, _ => []
  | f + 1, l => if l = [] then [] else headTok l :: tkF f (l.drop (Lib.decodeL l).2)
def tk (l : List UInt8) : List Tok := tkF l.length l
def flat (ts : List Tok) : List UInt8 := ts.flatMap (·.2)
@[simp] theorem flat_nil : flat [] = [] := rfl
@[simp] theorem flat_cons (t : Tok) (ts : List Tok) : flat (t :: ts) = t.2 ++ flat ts := by simp [flat]
theorem flat_append (a b : List Tok) : flat (a ++ b) = flat a ++ flat b := by simp [flat]

theorem tkF_nil (f : Nat) : tkF f [] = [] := by cases f <;> simp [tkF]
theorem tkF_more : ∀ (f g : Nat) (l : List UInt8), l.length ≤ f → l.length ≤ g → tkF f l = tkF g l
  | 0, g, l, hf, hg => by
    have : l = [] := List.eq_nil_of_length_eq_zero (by omega)
    subst this; simp [tkF, tkF_nil]
  | f + 1, 0, l, hf, hg => by
    have : l = [] := List.eq_nil_of_length_eq_zero (by omega)
    subst this; simp [tkF]
  | f + 1, g + 1, l, hf, hg => by
    unfold tkF
    split
    · rfl
    · rename_i hne
      have hw := Lib.decodeL_width l
      rw [tkF_more f g _ (by rw [List.length_drop]; omega) (by rw [List.length_drop]; omega)]
theorem tk_nil : tk [] = [] := rfl
theorem tk_cons (l : List UInt8) (h : l ≠ []) : tk l = headTok l :: tk (l.drop (Lib.decodeL l).2) := by
  have hl : 0 < l.length := List.length_pos_iff.2 h
  have hw := Lib.decodeL_width l
  unfold tk
  obtain ⟨n, hn⟩ : ∃ n, l.length = n + 1 := ⟨l.length - 1, by omega⟩
  rw [hn, show tkF (n + 1) l = headTok l :: tkF n (l.drop (Lib.decodeL l).2) from by simp [tkF, h]]
  rw [tkF_more n (l.drop (Lib.decodeL l).2).length _ (by rw [List.length_drop]; omega) (Nat.le_refl _)]
theorem flat_tk : ∀ (n : Nat) (l : List UInt8), l.length ≤ n → flat (tk l) = l
  | 0, l, h => by
    have : l = [] := List.eq_nil_of_length_eq_zero (by omega)
    subst this; rfl
  | n + 1, l, h => by
    by_cases h0 : l = []
    · subst h0; rfl
    · have hw := Lib.decodeL_width l
      have hl : 0 < l.length := List.length_pos_iff.2 h0
      rw [tk_cons l h0, flat_cons, flat_tk n _ (by rw [List.length_drop]; omega)]
      exact List.take_append_drop _ _
theorem flat_of_tk (l : List UInt8) : flat (tk l) = l := flat_tk _ l (Nat.le_refl _)

/-- Each begins where the one ahead of it ends. -/
def Good : List Tok → Prop
  | [] => True
  | t :: ts => t.2 ≠ [] ∧ headTok (t.2 ++ flat ts) = t ∧ Good ts
theorem headTok_width (t : Tok) (x : List UInt8) (hne : t.2 ++ x ≠ []) (h : headTok (t.2 ++ x) = t) : (Lib.decodeL (t.2 ++ x)).2 = t.2.length := by
  have h2 := congrArg (fun t => t.2.length) h
  simp only [headTok, List.length_take] at h2
  have := Lib.decodeL_le _ hne
  omega
theorem tk_flat : ∀ ts : List Tok, Good ts → tk (flat ts) = ts
  | [], _ => rfl
  | t :: ts, ⟨h1, h2, h3⟩ => by
    have hne : t.2 ++ flat ts ≠ [] := by simp [h1]
    rw [flat_cons, tk_cons _ hne, h2, headTok_width t _ hne h2]
    simp [tk_flat ts h3]
theorem good_tk : ∀ (n : Nat) (l : List UInt8), l.length ≤ n → Good (tk l)
  | 0, l, h => by
    have : l = [] := List.eq_nil_of_length_eq_zero (by omega)
    subst this; trivial
  | n + 1, l, h => by
    by_cases h0 : l = []
    · subst h0; trivial
    · have hw := Lib.decodeL_width l
      have hl : 0 < l.length := List.length_pos_iff.2 h0
      rw [tk_cons l h0]
      refine ⟨?_, ?_, good_tk n _ (by rw [List.length_drop]; omega)⟩
      · intro hc
        have hc' : l.take (Lib.decodeL l).2 = [] := hc
        have := congrArg List.length hc'
        rw [List.length_take, List.length_nil] at this
        omega
      · rw [flat_of_tk]
        show headTok (l.take _ ++ l.drop _) = _
        rw [List.take_append_drop]
theorem good_of_tk (l : List UInt8) : Good (tk l) := good_tk _ l (Nat.le_refl _)

/-! What a rune's bytes are, whatever follows. -/
theorem sh2 (n b0 b1 b2 b3 : Nat) (h0 : b0 / 32 = 6) (hn : 1 < n) (h1 : b1 / 64 = 2) (hv : 128 ≤ b0 % 32 * 64 + b1 % 64) : Lib.decodeN n b0 b1 b2 b3 = (b0 % 32 * 64 + b1 % 64, 2) := by
  unfold Lib.decodeN
  rw [if_neg (by omega), if_pos ⟨h0, hn, h1⟩, if_pos hv]
theorem sh3 (n b0 b1 b2 b3 : Nat) (h0 : b0 / 16 = 14) (hn : 2 < n) (h1 : b1 / 64 = 2) (h2 : b2 / 64 = 2) (hv : 2048 ≤ b0 % 16 * 4096 + b1 % 64 * 64 + b2 % 64) (hs : b0 % 16 * 4096 + b1 % 64 * 64 + b2 % 64 < 55296 ∨ 57344 ≤ b0 % 16 * 4096 + b1 % 64 * 64 + b2 % 64) : Lib.decodeN n b0 b1 b2 b3 = (b0 % 16 * 4096 + b1 % 64 * 64 + b2 % 64, 3) := by
  unfold Lib.decodeN
  rw [if_neg (by omega), if_neg (by omega), if_pos ⟨h0, ⟨by omega, h1⟩, hn, h2⟩, if_pos ⟨hv, by omega⟩]
theorem sh4 (n b0 b1 b2 b3 : Nat) (h0 : b0 / 8 = 30) (hn : 3 < n) (h1 : b1 / 64 = 2) (h2 : b2 / 64 = 2) (h3 : b3 / 64 = 2) (hv : 65536 ≤ b0 % 8 * 262144 + b1 % 64 * 4096 + b2 % 64 * 64 + b3 % 64) (hs : b0 % 8 * 262144 + b1 % 64 * 4096 + b2 % 64 * 64 + b3 % 64 ≤ 1114111) : Lib.decodeN n b0 b1 b2 b3 = (b0 % 8 * 262144 + b1 % 64 * 4096 + b2 % 64 * 64 + b3 % 64, 4) := by
  unfold Lib.decodeN
  rw [if_neg (by omega), if_neg (by omega), if_neg (by omega), if_pos ⟨h0, ⟨by omega, h1⟩, ⟨by omega, h2⟩, hn, h3⟩, if_pos ⟨hv, by omega⟩]
/-- A rune that was read, read again whatever follows. -/
theorem dec_local (l : List UInt8) (hne : l ≠ []) (hv : ¬ ((Lib.decodeL l).1 = 65533 ∧ (Lib.decodeL l).2 = 1)) (x : List UInt8) : Lib.decodeL (l.take (Lib.decodeL l).2 ++ x) = Lib.decodeL l := by
  have hl : 0 < l.length := List.length_pos_iff.2 hne
  rw [Lib.decodeL_N l] at hv ⊢
  rcases Lib.decodeN_shape l.length (l.getD 0 0).toNat (l.getD 1 0).toNat (l.getD 2 0).toNat (l.getD 3 0).toNat with ⟨c, e⟩ | ⟨c1, c2, c3, cv, e⟩ | ⟨c1, c2, c3, c4, cv, cs, e⟩ | ⟨c1, c2, c3, c4, c5, cv, cw, e⟩ | e
  · rw [e]; dsimp only
    rw [Lib.takeA l hl, Lib.decodeL_N]
    simp only [List.cons_append, List.nil_append, List.getD_cons_zero]
    exact Lib.decodeN_ascii _ _ _ _ _ c
  · rw [e]; dsimp only
    rw [Lib.takeB l c2, Lib.decodeL_N]
    simp only [List.cons_append, List.nil_append, List.getD_cons_zero, List.getD_cons_succ]
    exact sh2 _ _ _ _ _ c1 (by simp) c3 cv
  · rw [e]; dsimp only
    rw [Lib.takeC l c2, Lib.decodeL_N]
    simp only [List.cons_append, List.nil_append, List.getD_cons_zero, List.getD_cons_succ]
    exact sh3 _ _ _ _ _ c1 (by simp) c3 c4 cv cs
  · rw [e]; dsimp only
    rw [Lib.takeD l c2, Lib.decodeL_N]
    simp only [List.cons_append, List.nil_append, List.getD_cons_zero, List.getD_cons_succ]
    exact sh4 _ _ _ _ _ c1 (by simp) c3 c4 c5 cv cw
  · exact absurd ⟨by rw [e], by rw [e]⟩ hv
theorem tok_local (t : Tok) (x y : List UInt8) (hne : t.2 ≠ []) (hs : t.1 ≠ none) (h : headTok (t.2 ++ x) = t) : headTok (t.2 ++ y) = t := by
  have hne' : t.2 ++ x ≠ [] := by simp [hne]
  have hw := headTok_width t x hne' h
  have hv : ¬ ((Lib.decodeL (t.2 ++ x)).1 = 65533 ∧ (Lib.decodeL (t.2 ++ x)).2 = 1) := by
    intro hc
    apply hs
    have := congrArg (·.1) h
    simp only [headTok, if_pos hc] at this
    exact this.symm
  have hd := dec_local _ hne' hv y
  rw [hw, List.take_left] at hd
  unfold headTok at h ⊢
  rw [hd]
  refine Eq.trans ?_ h
  rw [hw]; simp
end Go.Proofs.YtjfnaedcdmmigaaDoor

namespace Go.Proofs.YtjfnaedcdmmigaaDoor
open Go
set_option linter.unusedSimpArgs false
set_option linter.unusedVariables false

def validRune (r : Nat) : Prop := r < 55296 ∨ (57344 ≤ r ∧ r ≤ 1114111)
theorem u8z (z : Nat) (h : z < 256) : ((z : Int).toNat.toUInt8).toNat = z := by
  simp [Nat.toUInt8]; omega
/-- A rune's bytes, read again. -/
theorem dec_enc (r : Nat) (h : validRune r) (x : List UInt8) : Lib.decodeL (Lib.encodeRune (r : Int) ++ x) = (r, (Lib.encodeRune (r : Int)).length) := by
  unfold validRune at h
  rw [Lib.decodeL_N]
  unfold Lib.encodeRune
  by_cases h1 : r ≤ 127
  · rw [Lib.encodeRuneZ_one (by omega) (by omega)]
    simp only [List.map_cons, List.map_nil, List.cons_append, List.nil_append, List.getD_cons_zero]
    rw [u8z r (by omega), Lib.decodeN_ascii _ _ _ _ _ (by omega)]; rfl
  · by_cases h2 : r ≤ 2047
    · rw [Lib.encodeRuneZ_two (by omega) (by omega)]
      simp only [List.map_cons, List.map_nil, List.cons_append, List.nil_append, List.getD_cons_zero, List.getD_cons_succ]
      rw [show (192 : Int) + (r : Int) / 64 = ((192 + r / 64 : Nat) : Int) by omega, show (128 : Int) + (r : Int) % 64 = ((128 + r % 64 : Nat) : Int) by omega, u8z _ (by omega), u8z _ (by omega)]
      rw [sh2 _ _ _ _ _ (by omega) (by simp) (by omega) (by omega)]
      refine Prod.ext ?_ rfl
      show (192 + r / 64) % 32 * 64 + (128 + r % 64) % 64 = r
      omega
    · by_cases h3 : r ≤ 65535
      · rw [Lib.encodeRuneZ_three (by omega)]
        simp only [List.map_cons, List.map_nil, List.cons_append, List.nil_append, List.getD_cons_zero, List.getD_cons_succ]
        rw [show (224 : Int) + (r : Int) / 4096 = ((224 + r / 4096 : Nat) : Int) by omega, show (128 : Int) + (r : Int) / 64 % 64 = ((128 + r / 64 % 64 : Nat) : Int) by omega, show (128 : Int) + (r : Int) % 64 = ((128 + r % 64 : Nat) : Int) by omega, u8z _ (by omega), u8z _ (by omega), u8z _ (by omega)]
        rw [sh3 _ _ _ _ _ (by omega) (by simp) (by omega) (by omega) (by omega) (by omega)]
        refine Prod.ext ?_ rfl
        show (224 + r / 4096) % 16 * 4096 + (128 + r / 64 % 64) % 64 * 64 + (128 + r % 64) % 64 = r
        omega
      · rw [Lib.encodeRuneZ_four (by omega) (by omega)]
        simp only [List.map_cons, List.map_nil, List.cons_append, List.nil_append, List.getD_cons_zero, List.getD_cons_succ]
        rw [show (240 : Int) + (r : Int) / 262144 = ((240 + r / 262144 : Nat) : Int) by omega, show (128 : Int) + (r : Int) / 4096 % 64 = ((128 + r / 4096 % 64 : Nat) : Int) by omega, show (128 : Int) + (r : Int) / 64 % 64 = ((128 + r / 64 % 64 : Nat) : Int) by omega, show (128 : Int) + (r : Int) % 64 = ((128 + r % 64 : Nat) : Int) by omega, u8z _ (by omega), u8z _ (by omega), u8z _ (by omega), u8z _ (by omega)]
        rw [sh4 _ _ _ _ _ (by omega) (by simp) (by omega) (by omega) (by omega) (by omega) (by omega)]
        refine Prod.ext ?_ rfl
        show (240 + r / 262144) % 8 * 262144 + (128 + r / 4096 % 64) % 64 * 4096 + (128 + r / 64 % 64) % 64 * 64 + (128 + r % 64) % 64 = r
        omega
theorem enc_ne (r : Int) : Lib.encodeRune r ≠ [] := by
  unfold Lib.encodeRune Lib.encodeRuneZ
  repeat' split
  all_goals simp
theorem tok_enc (r : Nat) (h : validRune r) (x : List UInt8) : headTok (Lib.encodeRune (r : Int) ++ x) = (some r, Lib.encodeRune (r : Int)) := by
  unfold headTok
  rw [dec_enc r h x]
  have hc : ¬ (r = 65533 ∧ (Lib.encodeRune (r : Int)).length = 1) := by
    rintro ⟨rfl, h2⟩
    revert h2; decide
  rw [if_neg hc]; simp
/-- A rune that was read is one. -/
theorem dec_valid (l : List UInt8) (hne : l ≠ []) (hv : ¬ ((Lib.decodeL l).1 = 65533 ∧ (Lib.decodeL l).2 = 1)) : validRune (Lib.decodeL l).1 := by
  unfold validRune
  rw [Lib.decodeL_N l] at hv ⊢
  have k0 := (l.getD 0 0).toNat_lt
  have k1 := (l.getD 1 0).toNat_lt
  rcases Lib.decodeN_shape l.length (l.getD 0 0).toNat (l.getD 1 0).toNat (l.getD 2 0).toNat (l.getD 3 0).toNat with ⟨c, e⟩ | ⟨c1, c2, c3, cv, e⟩ | ⟨c1, c2, c3, c4, cv, cs, e⟩ | ⟨c1, c2, c3, c4, c5, cv, cw, e⟩ | e
  · rw [e]; dsimp only; omega
  · rw [e]; dsimp only; omega
  · rw [e]; dsimp only; omega
  · rw [e]; dsimp only; omega
  · exact absurd ⟨by rw [e], by rw [e]⟩ hv
/-! Strays -/
def cont (b : UInt8) : Bool := b.toNat / 64 == 2
def lead (l : List UInt8) : List UInt8 := l.takeWhile cont
theorem lead_cons {x y : List UInt8} {b : UInt8} (h : lead x = lead (b :: y)) (hb : b.toNat / 64 = 2) : ∃ x', x = b :: x' ∧ lead x' = lead y := by
  have hc : cont b = true := by simp [cont, hb]
  unfold lead at h
  rw [List.takeWhile_cons, if_pos hc] at h
  cases x with
  | nil => simp at h
  | cons c x =>
    rw [List.takeWhile_cons] at h
    split at h
    · injection h with h1 h2
      subst h1
      exact ⟨x, rfl, h2⟩
    · cases h
theorem getD1 (b : UInt8) (y : List UInt8) (h : 1 < (b :: y).length) : ∃ c y', y = c :: y' := by
  cases y with
  | nil => simp at h
  | cons c y' => exact ⟨c, y', rfl⟩
/-- A stray is one by the continuing bytes behind it alone. -/
theorem stray_ctx (b : UInt8) (x y : List UInt8) (h : Lib.decodeL (b :: x) = (65533, 1)) (hl : lead x = lead y) : Lib.decodeL (b :: y) = (65533, 1) := by
  rw [Lib.decodeL_N (b :: y)]
  rcases Lib.decodeN_shape (b :: y).length ((b :: y).getD 0 0).toNat ((b :: y).getD 1 0).toNat ((b :: y).getD 2 0).toNat ((b :: y).getD 3 0).toNat with ⟨c, e⟩ | ⟨c1, c2, c3, cv, e⟩ | ⟨c1, c2, c3, c4, cv, cs, e⟩ | ⟨c1, c2, c3, c4, c5, cv, cw, e⟩ | e
  · exfalso
    rw [Lib.decodeL_N, Lib.decodeN_ascii _ _ _ _ _ (by simpa using c)] at h
    have := b.toNat_lt
    simp at h
    omega
  · exfalso
    obtain ⟨y0, y', rfl⟩ := getD1 b y c2
    simp only [List.getD_cons_zero, List.getD_cons_succ] at c1 c3 cv
    obtain ⟨x', rfl, _⟩ := lead_cons hl c3
    rw [Lib.decodeL_N, sh2 _ _ _ _ _ (by simpa using c1) (by simp) (by simpa using c3) (by simpa using cv)] at h
    simp at h
  · exfalso
    obtain ⟨y0, y', rfl⟩ := getD1 b y (by omega)
    obtain ⟨y1, y'', rfl⟩ := getD1 y0 y' (by simp at c2 ⊢; omega)
    simp only [List.getD_cons_zero, List.getD_cons_succ] at c1 c3 c4 cv cs
    obtain ⟨x', rfl, hx⟩ := lead_cons hl c3
    obtain ⟨x'', rfl, _⟩ := lead_cons hx c4
    rw [Lib.decodeL_N, sh3 _ _ _ _ _ (by simpa using c1) (by simp) (by simpa using c3) (by simpa using c4) (by simpa using cv) (by simpa using cs)] at h
    simp at h
  · exfalso
    obtain ⟨y0, y', rfl⟩ := getD1 b y (by omega)
    obtain ⟨y1, y'', rfl⟩ := getD1 y0 y' (by simp at c2 ⊢; omega)
    obtain ⟨y2, y3, rfl⟩ := getD1 y1 y'' (by simp at c2 ⊢; omega)
    simp only [List.getD_cons_zero, List.getD_cons_succ] at c1 c3 c4 c5 cv cw
    obtain ⟨x', rfl, hx⟩ := lead_cons hl c3
    obtain ⟨x'', rfl, hx2⟩ := lead_cons hx c4
    obtain ⟨x3, rfl, _⟩ := lead_cons hx2 c5
    rw [Lib.decodeL_N, sh4 _ _ _ _ _ (by simpa using c1) (by simp) (by simpa using c3) (by simpa using c4) (by simpa using c5) (by simpa using cv) (by simpa using cw)] at h
    simp at h
  · exact e
/-- A rune's first byte is no continuing one. -/
theorem rune_lead (t : Tok) (x y : List UInt8) (hne : t.2 ≠ []) (hs : t.1 ≠ none) (h : headTok (t.2 ++ x) = t) : lead (t.2 ++ y) = [] := by
  obtain ⟨o, bs⟩ := t
  cases bs with
  | nil => exact absurd rfl hne
  | cons b bs =>
    show (b :: (bs ++ y)).takeWhile cont = []
    rw [List.takeWhile_cons]
    split
    · rename_i hc
      exfalso
      have hb : b.toNat / 64 = 2 := by simpa [cont] using hc
      have hd : Lib.decodeL (b :: bs ++ x) = (65533, 1) := by
        rw [Lib.decodeL_N]; exact Lib.decodeN_cont _ _ _ _ _ (by simpa using hb)
      apply hs
      have h2 := congrArg (·.1) h
      have hd' : Lib.decodeL ((o, b :: bs).2 ++ x) = (65533, 1) := hd
      simp only [headTok, hd', and_self, if_true] at h2
      exact h2.symm
    · rfl
theorem stray_tok (b : UInt8) (x : List UInt8) : headTok ([b] ++ x) = (none, [b]) ↔ Lib.decodeL (b :: x) = (65533, 1) := by
  constructor
  · intro h
    have h1 := congrArg (·.1) h
    simp only [headTok, List.cons_append, List.nil_append] at h1
    split at h1
    · rename_i hc; exact Prod.ext hc.1 hc.2
    · cases h1
  · intro h
    unfold headTok
    have h' : Lib.decodeL ([b] ++ x) = (65533, 1) := h
    rw [h']; simp
theorem tok_none (t : Tok) (x : List UInt8) (hne : t.2 ≠ []) (h : headTok (t.2 ++ x) = t) (hs : t.1 = none) : ∃ b, t = (none, [b]) := by
  have hw := headTok_width t x (by simp [hne]) h
  have h1 := congrArg (·.1) h
  rw [hs] at h1
  simp only [headTok] at h1
  split at h1
  · rename_i hc
    rw [hc.2] at hw
    obtain ⟨o, bs⟩ := t
    match bs, hw with
    | [b], _ => exact ⟨b, by simp at hs; rw [hs]⟩
  · cases h1
end Go.Proofs.YtjfnaedcdmmigaaDoor

namespace Go.Proofs
open Go.Shelf
namespace YtjfnaedcdmmigaaDoor
open Go.RowKit
end YtjfnaedcdmmigaaDoor
end Go.Proofs

namespace Go.Proofs
open Go.Shelf
namespace YtjfnaedcdmmigaaDoor
open Go.RowKit
set_option linter.unusedSimpArgs false
set_option linter.unusedVariables false
/-- What stands for it in a text without capitals. -/
def foldItem (l : List UInt8) (x : Nat × Nat) : List UInt8 := if pStray l x.1 x.2 then [l.getD x.1 0] else if pCapital x.2 then Lib.encodeRune ((x.2 : Int) + 32) else Lib.encodeRune (x.2 : Int)
def pFold (l : List UInt8) : List UInt8 := (items l).flatMap (foldItem l)
theorem enc_le (r : Int) : (Lib.encodeRune r).length ≤ 4 := by
  have := Lib.runeCells_le r
  rw [Lib.runeCells_length] at this; exact this.2

end YtjfnaedcdmmigaaDoor
end Go.Proofs

namespace Go.Proofs.YtjfnaedcdmmigaaDoor
open Go.RowKit
set_option linter.unusedSimpArgs false
set_option linter.unusedVariables false

/-- May the rune stand at that place of a name? -/
def nameRune (i r : Nat) : Bool := pSmall r || (i != 0 && pDigit r)
/-- All runes from place i on. -/
def nameFrom : Nat → List (Nat × Nat) → Bool
  | _, [] => true
  | i, x :: l => nameRune i x.2 && nameFrom (i + 1) l
def pRight (l : List UInt8) : Bool := nameFrom 0 (items l) && (decide (1 ≤ (items l).length) && decide ((items l).length ≤ 12))

set_option maxHeartbeats 2000000 in
set_option maxRecDepth 100000 in
theorem right_calls (l : List UInt8) (hl : l.length ≤ 4611686018427387904) (w : World) :
    Calls Tryd.prog 50 #[.string (str l)] w fun e w' => e = .returned (.bool (pRight l)) ∧ Below w.heap.size w w' := by
  have hsz : (str l).size = l.length := str_size l
  generalize hs : str l = s at *
  generalize hR : pRight l = R
  have HR := hide hR
  have Hs := hide hs
  have Hsz := hide hsz
  clear hs hsz hR
  go_enter Tryd.func50, Tryd.ntmps50
  go_wp2
  go_loopw [3] (fun a wr => ∃ (pos fuel : Nat) (dn : List (Nat × Nat)), a = .int .i64 (dn.length : Int) ∧ wr.heap[w.heap.size]? = some (.stringIter s pos) ∧ Below w.heap.size w wr ∧ Hid (items l = dn ++ itemsFrom s fuel pos) ∧ Hid (nameFrom 0 (items l) = nameFrom dn.length (itemsFrom s fuel pos)) ∧ l.length ≤ pos + fuel ∧ dn.length ≤ pos) (fun _ wr => l.length - wr.iterPos w.heap.size)
  case atStart =>
    have e : items l = itemsFrom s l.length 0 := by rw [items, unhide Hs]
    refine ⟨0, l.length, [], rfl, ?_, (Below.refl _ w).alloc (Nat.le_refl _) _, ?_, ?_, by omega, by simp⟩
    · have := World.iter_heap w s 0
      simpa using this
    · exact e
    · show nameFrom 0 (items l) = _; rw [e]; rfl
  case round =>
    obtain ⟨pos, fuel, dn, rfl, hit, hb, hI, hN, hf, hdn⟩ := hrel
    have hlt : w.heap.size < wr.heap.size := (Array.getElem?_eq_some_iff.1 hit).1
    have hsz := unhide Hsz
    by_cases hp : pos < s.size
    · have hnx : ∀ ty, (Instr.next (.pointer (some ⟨w.heap.size, 0, none⟩)) true ty).run Tryd.prog wr = _ := fun ty => Lib.run_next_any_at wr w.heap.size s pos ty hit hp
      have hwd := width_pos s pos hp
      have hd1 := decode_le s pos
      have hit2 := Lib.iterAt_heap wr w.heap.size s pos (pos + (Utf8.decode s pos).2) hit
      have hb2 := Lib.below_iterAt hb (k := w.heap.size) (Nat.le_refl _) s (pos + (Utf8.decode s pos).2)
      obtain ⟨f, rfl⟩ : ∃ f, fuel = f + 1 := ⟨fuel - 1, by omega⟩
      have hnew : items l = (dn ++ [(pos, (Utf8.decode s pos).1)]) ++ itemsFrom s f (pos + (Utf8.decode s pos).2) := by
        rw [unhide hI]; simp [itemsFrom, hp]
      have hname : nameFrom 0 (items l) = (nameRune dn.length (Utf8.decode s pos).1 && nameFrom (dn.length + 1) (itemsFrom s f (pos + (Utf8.decode s pos).2))) := by
        rw [unhide hN]; simp [itemsFrom, hp, nameFrom]
      generalize hr : (Utf8.decode s pos).1 = r at *
      generalize hwv : (Utf8.decode s pos).2 = wd at *
      have hpl : pos < l.length := by omega
      have Hnew := hide hnew
      have Hname := hide hname
      have Hit2 := hide hit2
      clear hnew hname hr hwv hI hN hit2 hsz
      generalize hdl : dn.length = dl at *
      have Hdl := hide hdl
      have w1 := wi64 ((dl : Int) + 1) (by omega) (by omega)
      clear hdl
      cases hc : nameRune dl r with
      | true =>
        have hgo : pSmall r = true ∨ (pSmall r = false ∧ dl ≠ 0 ∧ pDigit r = true) := by
          cases h1 : pSmall r with
          | true => exact .inl rfl
          | false => right; simpa [nameRune, h1] using hc
        have hrel' : (∃ pos_1 fuel dn_1, Value.int .i64 ((dl : Int) + 1) = Value.int .i64 ((dn_1 : List (Nat × Nat)).length : Int) ∧ (wr.iterAt w.heap.size s (pos + wd)).heap[w.heap.size]? = some (.stringIter s pos_1) ∧ Below w.heap.size w (wr.iterAt w.heap.size s (pos + wd)) ∧ Hid (items l = dn_1 ++ itemsFrom s fuel pos_1) ∧ Hid (nameFrom 0 (items l) = nameFrom dn_1.length (itemsFrom s fuel pos_1)) ∧ l.length ≤ pos_1 + fuel ∧ dn_1.length ≤ pos_1) ∧ l.length - (wr.iterAt w.heap.size s (pos + wd)).iterPos w.heap.size < l.length - wr.iterPos w.heap.size := by
          have hdl := unhide Hdl
          refine ⟨⟨pos + wd, f, dn ++ [(pos, r)], by simp [hdl], unhide Hit2, hb2, Hnew, ?_, by omega, by simp; omega⟩, ?_⟩
          · show nameFrom 0 (items l) = _
            rw [unhide Hname, hc, Bool.true_and, List.length_append, hdl]; rfl
          · simp only [World.iterPos, unhide Hit2, hit]; omega
        have Hrel' := hide hrel'
        clear hrel'
        rcases hgo with h1 | ⟨h1, h2, h3⟩
        · have Hsm := fun w => isSmall_calls r w
          rw [h1] at Hsm
          have HSm := hide Hsm
          clear Hsm h1 hc
          go_wp2_with (first
            | (go_at_call 74; refine (unhide HSm _).mono ?_; rintro e w' ⟨rfl, rfl⟩)
            | (go_at_call 75; refine (isDigit_calls _ _).mono ?_; rintro e w' ⟨rfl, rfl⟩))
          exact unhide Hrel'
        · have Hsm := fun w => isSmall_calls r w
          have Hdg := fun w => isDigit_calls r w
          rw [h1] at Hsm
          rw [h3] at Hdg
          have HSm := hide Hsm
          have HDg := hide Hdg
          have hd0 : ((dl : Int) == 0) = false := by simp; omega
          clear Hsm Hdg h1 h3 hc
          go_wp2_with (first
            | (go_at_call 74; refine (unhide HSm _).mono ?_; rintro e w' ⟨rfl, rfl⟩)
            | (go_at_call 75; refine (unhide HDg _).mono ?_; rintro e w' ⟨rfl, rfl⟩))
          exact unhide Hrel'
      | false =>
        have hRf : R = false := by rw [← unhide HR, pRight, unhide Hname, hc]; rfl
        have HRf := hide hRf
        have hsm : pSmall r = false := by cases h1 : pSmall r with | false => rfl | true => simp [nameRune, h1] at hc
        have Hsm := fun w => isSmall_calls r w
        rw [hsm] at Hsm
        have HSm := hide Hsm
        by_cases h0 : dl = 0
        · have hd0 : ((dl : Int) == 0) = true := by simp; omega
          clear Hsm hsm hc hRf
          go_wp2_with (go_at_call 74; refine (unhide HSm _).mono ?_; rintro e w' ⟨rfl, rfl⟩)
          go_ret
          exact ⟨by rw [unhide HRf]; rfl, hb2⟩
        · have hd0 : ((dl : Int) == 0) = false := by simp; omega
          have hdg : pDigit r = false := by cases h1 : pDigit r with | false => rfl | true => simp [nameRune, h1, h0] at hc
          have Hdg := fun w => isDigit_calls r w
          rw [hdg] at Hdg
          have HDg := hide Hdg
          clear Hsm hsm Hdg hdg hc hRf
          go_wp2_with (first
            | (go_at_call 74; refine (unhide HSm _).mono ?_; rintro e w' ⟨rfl, rfl⟩)
            | (go_at_call 75; refine (unhide HDg _).mono ?_; rintro e w' ⟨rfl, rfl⟩))
          go_ret
          exact ⟨by rw [unhide HRf]; rfl, hb2⟩
    · have hnx : ∀ ty, (Instr.next (.pointer (some ⟨w.heap.size, 0, none⟩)) true ty).run Tryd.prog wr = _ := fun ty => Lib.run_next_end_at wr w.heap.size s pos ty hit hp
      have hI' := unhide hI
      have hN' := unhide hN
      rw [itemsFrom_end s fuel pos hp, List.append_nil] at hI'
      rw [itemsFrom_end s fuel pos hp] at hN'
      have h1 : R = (decide (1 ≤ dn.length) && decide (dn.length ≤ 12)) := by
        rw [← unhide HR, pRight, hN', hI']; simp [nameFrom]
      have H1 := hide h1
      clear hI' hN' h1 hsz
      generalize dn.length = n at *
      cases d1 : decide ((1 : Int) ≤ (n : Int)) <;> cases d2 : decide ((n : Int) ≤ 12)
      all_goals
        go_wp2
        go_ret
        refine ⟨?_, hb⟩
        rw [unhide H1]
        simp only [decide_eq_true_eq, decide_eq_false_iff_not] at d1 d2
        simp
        omega
end Go.Proofs.YtjfnaedcdmmigaaDoor

namespace Go.Proofs.YtjfnaedcdmmigaaDoor
open Go.RowKit
set_option linter.unusedSimpArgs false
set_option linter.unusedVariables false

/-- May that be said? -/
def sayRune (l : List UInt8) (x : Nat × Nat) : Bool := !(pStray l x.1 x.2) && (!decide (x.2 < 32) && !(x.2 == 127))
def pSays (l : List UInt8) : Bool := (items l).all (sayRune l) && decide ((items l).length ≤ 64)

set_option maxHeartbeats 2000000 in
set_option maxRecDepth 100000 in
theorem says_calls (l : List UInt8) (hl : l.length ≤ 4611686018427387904) (w : World) :
    Calls Tryd.prog 106 #[.string (str l)] w fun e w' => e = .returned (.bool (pSays l)) ∧ Below w.heap.size w w' := by
  have hsz : (str l).size = l.length := str_size l
  generalize hs : str l = s at *
  generalize hR : pSays l = R
  have HR := hide hR
  have Hs := hide hs
  have Hsz := hide hsz
  clear hs hsz hR
  go_enter Tryd.func106, Tryd.ntmps106
  go_wp2
  go_loopw [3] (fun a wr => ∃ (pos fuel : Nat) (dn : List (Nat × Nat)), a = .int .i64 (dn.length : Int) ∧ wr.heap[w.heap.size]? = some (.stringIter s pos) ∧ Below w.heap.size w wr ∧ Hid (items l = dn ++ itemsFrom s fuel pos) ∧ Hid (dn.all (sayRune l) = true) ∧ l.length ≤ pos + fuel ∧ dn.length ≤ pos) (fun _ wr => l.length - wr.iterPos w.heap.size)
  case atStart =>
    have e : items l = itemsFrom s l.length 0 := by rw [items, unhide Hs]
    refine ⟨0, l.length, [], rfl, ?_, (Below.refl _ w).alloc (Nat.le_refl _) _, e, rfl, by omega, by simp⟩
    have := World.iter_heap w s 0
    simpa using this
  case round =>
    obtain ⟨pos, fuel, dn, rfl, hit, hb, hI, hN, hf, hdn⟩ := hrel
    have hlt : w.heap.size < wr.heap.size := (Array.getElem?_eq_some_iff.1 hit).1
    have hsz := unhide Hsz
    by_cases hp : pos < s.size
    · have hnx : ∀ ty, (Instr.next (.pointer (some ⟨w.heap.size, 0, none⟩)) true ty).run Tryd.prog wr = _ := fun ty => Lib.run_next_any_at wr w.heap.size s pos ty hit hp
      have hwd := width_pos s pos hp
      have hd1 := decode_le s pos
      have hit2 := Lib.iterAt_heap wr w.heap.size s pos (pos + (Utf8.decode s pos).2) hit
      have hb2 := Lib.below_iterAt hb (k := w.heap.size) (Nat.le_refl _) s (pos + (Utf8.decode s pos).2)
      obtain ⟨f, rfl⟩ : ∃ f, fuel = f + 1 := ⟨fuel - 1, by omega⟩
      have hst := isStray_calls l pos (Utf8.decode s pos).1 (by omega) (by omega)
      rw [unhide Hs] at hst
      have hnew : items l = (dn ++ [(pos, (Utf8.decode s pos).1)]) ++ itemsFrom s f (pos + (Utf8.decode s pos).2) := by
        rw [unhide hI]; simp [itemsFrom, hp]
      generalize hr : (Utf8.decode s pos).1 = r at *
      generalize hwv : (Utf8.decode s pos).2 = wd at *
      have hpl : pos < l.length := by omega
      have Hnew := hide hnew
      have Hit2 := hide hit2
      generalize hdl : dn.length = dl at *
      have Hdl := hide hdl
      have w1 := wi64 ((dl : Int) + 1) (by omega) (by omega)
      clear hnew hr hwv hI hit2 hsz hdl
      have hbad : sayRune l (pos, r) = false → R = false := fun h => by
        rw [← unhide HR, pSays, unhide Hnew, List.all_append, List.all_append]; simp [h]
      have Hbad := hide hbad
      clear hbad
      cases hc : pStray l pos r with
      | true =>
        have hRf : R = false := unhide Hbad (by simp [sayRune, hc])
        have HRf := hide hRf
        rw [hc] at hst
        have Hst := hide hst
        clear hst hRf hc
        go_wp2_with (go_at_call 118; refine (unhide Hst _).mono ?_; rintro e w' ⟨rfl, rfl⟩)
        go_ret
        exact ⟨by rw [unhide HRf]; rfl, hb2⟩
      | false =>
        rw [hc] at hst
        have Hst := hide hst
        clear hst
        by_cases h32 : r < 32
        · have hRf : R = false := unhide Hbad (by simp [sayRune, hc, h32])
          have HRf := hide hRf
          have d1 : decide ((r : Int) < 32) = true := by simp; omega
          clear hRf hc
          go_wp2_with (go_at_call 118; refine (unhide Hst _).mono ?_; rintro e w' ⟨rfl, rfl⟩)
          go_ret
          exact ⟨by rw [unhide HRf]; rfl, hb2⟩
        · have d1 : decide ((r : Int) < 32) = false := by simp; omega
          by_cases h127 : r = 127
          · have hRf : R = false := unhide Hbad (by simp [sayRune, hc, h127])
            have HRf := hide hRf
            have d2 : ((r : Int) == 127) = true := by simp; omega
            clear hRf hc h127
            go_wp2_with (go_at_call 118; refine (unhide Hst _).mono ?_; rintro e w' ⟨rfl, rfl⟩)
            go_ret
            exact ⟨by rw [unhide HRf]; rfl, hb2⟩
          · have d2 : ((r : Int) == 127) = false := by simp; omega
            have hgood : sayRune l (pos, r) = true := by simp [sayRune, hc, h127]; omega
            have Hgood := hide hgood
            clear hgood hc h127
            go_wp2_with (go_at_call 118; refine (unhide Hst _).mono ?_; rintro e w' ⟨rfl, rfl⟩)
            have hdl := unhide Hdl
            refine ⟨⟨pos + wd, f, dn ++ [(pos, r)], by simp [hdl], unhide Hit2, hb2, Hnew, ?_, by omega, by simp; omega⟩, ?_⟩
            · show (dn ++ [(pos, r)]).all (sayRune l) = true
              rw [List.all_append, unhide hN]; simp [unhide Hgood]
            · simp only [World.iterPos, unhide Hit2, hit]; omega
    · have hnx : ∀ ty, (Instr.next (.pointer (some ⟨w.heap.size, 0, none⟩)) true ty).run Tryd.prog wr = _ := fun ty => Lib.run_next_end_at wr w.heap.size s pos ty hit hp
      have hI' := unhide hI
      rw [itemsFrom_end s fuel pos hp, List.append_nil] at hI'
      have h1 : R = decide (dn.length ≤ 64) := by
        rw [← unhide HR, pSays, hI', unhide hN, Bool.true_and]
      have H1 := hide h1
      clear hI' h1 hsz hN hI
      generalize dn.length = n at *
      cases d2 : decide ((n : Int) ≤ 64)
      all_goals
        go_wp2
        go_ret
        refine ⟨?_, hb⟩
        rw [unhide H1]
        simp only [decide_eq_true_eq, decide_eq_false_iff_not] at d2
        simp
        omega
end Go.Proofs.YtjfnaedcdmmigaaDoor

namespace Go.Proofs.YtjfnaedcdmmigaaDoor
open Go
set_option linter.unusedSimpArgs false
set_option linter.unusedVariables false

theorem enc_fffd : Lib.encodeRune ((65533 : Nat) : Int) = [239, 191, 189] := by decide
theorem pStray_iff (l : List UInt8) (pos : Nat) (hne : l.drop pos ≠ []) : pStray l pos (Lib.decodeL (l.drop pos)).1 = true ↔ ((Lib.decodeL (l.drop pos)).1 = 65533 ∧ (Lib.decodeL (l.drop pos)).2 = 1) := by
  unfold pStray
  generalize hm : l.drop pos = m at *
  simp only [Bool.and_eq_true, beq_iff_eq, Bool.not_eq_true', Lib.hasPrefix, List.isPrefixOf_iff_prefix, ← Bool.not_eq_true]
  constructor
  · rintro ⟨h1, h2⟩
    refine ⟨h1, ?_⟩
    by_cases hw : (Lib.decodeL m).2 = 1
    · exact hw
    · exfalso
      have he := Lib.encode_decode m hne (fun hc => hw hc.2)
      rw [h1, enc_fffd] at he
      exact h2 ⟨m.drop (Lib.decodeL m).2, by rw [he]; exact List.take_append_drop _ _⟩
  · rintro ⟨h1, h2⟩
    refine ⟨h1, ?_⟩
    rintro ⟨t, ht⟩
    have hd := dec_enc 65533 (by unfold validRune; omega) t
    rw [enc_fffd, ht] at hd
    rw [hd] at h2
    cases h2
/-- What a range hands out, as a rune or a stray. -/
def tokOf (l : List UInt8) (x : Nat × Nat) : Tok := (if pStray l x.1 x.2 then none else some x.2, (l.drop x.1).take (Lib.decodeL (l.drop x.1)).2)
theorem itemsFrom_tok (l : List UInt8) : ∀ (fuel pos : Nat), (itemsFrom (str l) fuel pos).map (tokOf l) = tkF fuel (l.drop pos)
  | 0, pos => rfl
  | f + 1, pos => by
    unfold itemsFrom tkF
    by_cases hp : pos < (str l).size
    · have hne : l.drop pos ≠ [] := by rw [str_size] at hp; simp; omega
      have hd : Lib.decodeL (l.drop pos) = Utf8.decode (str l) pos := by rw [← Lib.decodeL_drop, str_toList]
      rw [if_pos hp, if_neg hne, List.map_cons, itemsFrom_tok l f, ← hd, List.drop_drop]
      congr 1
      unfold tokOf headTok
      simp only
      congr 1
      by_cases hc : (Lib.decodeL (l.drop pos)).1 = 65533 ∧ (Lib.decodeL (l.drop pos)).2 = 1
      · rw [if_pos hc, if_pos ((pStray_iff l pos hne).2 hc)]
      · rw [if_neg hc, if_neg (fun h => hc ((pStray_iff l pos hne).1 h))]
    · have hn : l.drop pos = [] := by rw [str_size] at hp; simp; omega
      rw [if_neg hp, if_pos hn]; rfl
theorem items_tok (l : List UInt8) : (items l).map (tokOf l) = tk l := by
  unfold items tk
  rw [itemsFrom_tok]; simp
theorem itemsFrom_mem (l : List UInt8) : ∀ (fuel pos : Nat), ∀ x ∈ itemsFrom (str l) fuel pos, x.1 < l.length ∧ x.2 = (Lib.decodeL (l.drop x.1)).1
  | 0, pos, x, h => by cases h
  | f + 1, pos, x, h => by
    unfold itemsFrom at h
    split at h
    · rename_i hp
      rcases List.mem_cons.1 h with rfl | h
      · refine ⟨by rw [str_size] at hp; exact hp, ?_⟩
        show (Utf8.decode (str l) pos).1 = _
        rw [← Lib.decodeL_drop, str_toList]
      · exact itemsFrom_mem l f _ x h
    · cases h
theorem items_mem (l : List UInt8) (x : Nat × Nat) (h : x ∈ items l) : x.1 < l.length ∧ x.2 = (Lib.decodeL (l.drop x.1)).1 := itemsFrom_mem l _ _ x h

def foldTok (t : Tok) : Tok := match t with
  | (none, bs) => (none, bs)
  | (some r, bs) => if pCapital r then (some (r + 32), Lib.encodeRune ((r : Int) + 32)) else (some r, bs)
theorem foldItem_tok (l : List UInt8) (x : Nat × Nat) (h : x ∈ items l) : foldItem l x = (foldTok (tokOf l x)).2 := by
  obtain ⟨h1, h2⟩ := items_mem l x h
  have hne : l.drop x.1 ≠ [] := by simp; omega
  unfold foldItem tokOf foldTok
  by_cases hs : pStray l x.1 x.2 = true
  · simp only [if_pos hs]
    rw [h2] at hs
    have := (pStray_iff l x.1 hne).1 hs
    rw [this.2, List.drop_eq_getElem_cons h1, List.take_succ_cons, List.take_zero, List.getD_eq_getElem?_getD, List.getElem?_eq_getElem h1]; rfl
  · simp only [if_neg hs]
    by_cases hc : pCapital x.2 = true
    · simp only [if_pos hc]
    · simp only [if_neg hc]
      rw [h2] at hs ⊢
      exact Lib.encode_decode _ hne (fun hh => hs ((pStray_iff l x.1 hne).2 hh))
theorem pFold_tok (l : List UInt8) : pFold l = flat ((tk l).map foldTok) := by
  unfold pFold flat
  rw [← items_tok, List.map_map, List.flatMap_def, List.flatMap_def, List.map_map]
  congr 1
  apply List.map_congr_left
  intro x hx
  exact foldItem_tok l x hx
theorem pStrays_tok (l : List UInt8) : pStrays l = ((tk l).filter fun t => t.1.isNone).length := by
  unfold pStrays
  rw [← items_tok, List.filter_map, List.length_map]
  congr 1
  apply List.filter_congr
  intro x hx
  simp only [Function.comp_apply, tokOf]
  cases pStray l x.1 x.2 <;> simp
theorem pRunes_tok (l : List UInt8) : pRunes l = ((tk l).filter fun t => t.1.isSome).length := by
  unfold pRunes
  rw [← items_tok, List.filter_map, List.length_map]
  congr 1
  apply List.filter_congr
  intro x hx
  simp only [Function.comp_apply, tokOf]
  cases pStray l x.1 x.2 <;> simp
def nameTok (i : Nat) (t : Tok) : Bool := match t.1 with
  | none => false
  | some r => nameRune i r
def nameToks : Nat → List Tok → Bool
  | _, [] => true
  | i, t :: ts => nameTok i t && nameToks (i + 1) ts
theorem nameFrom_tok (l : List UInt8) : ∀ (xs : List (Nat × Nat)) (i : Nat), (∀ x ∈ xs, x ∈ items l) → nameFrom i xs = nameToks i (xs.map (tokOf l))
  | [], i, _ => rfl
  | x :: xs, i, h => by
    unfold nameFrom
    rw [List.map_cons]
    unfold nameToks
    rw [nameFrom_tok l xs (i + 1) (fun y hy => h y (by simp [hy]))]
    congr 1
    unfold nameTok tokOf
    by_cases hs : pStray l x.1 x.2 = true
    · simp only [if_pos hs]
      have : x.2 = 65533 := by
        unfold pStray at hs
        simp only [Bool.and_eq_true, beq_iff_eq] at hs
        exact hs.1
      rw [this]; simp [nameRune, pSmall, pDigit]
    · simp only [if_neg hs]
theorem pRight_tok (l : List UInt8) : pRight l = (nameToks 0 (tk l) && (decide (1 ≤ (tk l).length) && decide ((tk l).length ≤ 12))) := by
  unfold pRight
  rw [nameFrom_tok l _ 0 (fun _ h => h), items_tok, show (items l).length = (tk l).length by rw [← items_tok, List.length_map]]
def sayTok (t : Tok) : Bool := match t.1 with
  | none => false
  | some r => !decide (r < 32) && !(r == 127)
theorem pSays_tok (l : List UInt8) : pSays l = ((tk l).all sayTok && decide ((tk l).length ≤ 64)) := by
  unfold pSays
  rw [show (items l).length = (tk l).length by rw [← items_tok, List.length_map], ← items_tok, List.all_map]
  congr 2
  funext x
  simp only [Function.comp_apply, sayRune, sayTok, tokOf]
  cases pStray l x.1 x.2 <;> simp
theorem cap_valid (r : Nat) (h : pCapital r = true) : validRune (r + 32) ∧ pCapital (r + 32) = false := by
  simp [pCapital, validRune] at *
  omega
theorem enc_cast (r : Nat) : Lib.encodeRune ((r : Int) + 32) = Lib.encodeRune ((r + 32 : Nat) : Int) := by simp
theorem good_fold : ∀ ts : List Tok, Good ts → Good (ts.map foldTok) ∧ lead (flat (ts.map foldTok)) = lead (flat ts)
  | [], _ => ⟨trivial, rfl⟩
  | t :: ts, ⟨h1, h2, h3⟩ => by
    obtain ⟨g, e⟩ := good_fold ts h3
    rw [List.map_cons, flat_cons, flat_cons]
    by_cases hs : t.1 = none
    · obtain ⟨b, rfl⟩ := tok_none t _ h1 h2 hs
      have hd := (stray_tok b _).1 h2
      refine ⟨⟨by simp [foldTok], ?_, g⟩, ?_⟩
      · exact (stray_tok b _).2 (stray_ctx b _ _ hd e.symm)
      · show (b :: flat _).takeWhile cont = (b :: flat _).takeWhile cont
        rw [List.takeWhile_cons, List.takeWhile_cons]
        split
        · congr 1
        · rfl
    · obtain ⟨o, bs⟩ := t
      cases o with
      | none => exact absurd rfl hs
      | some r =>
        by_cases hc : pCapital r = true
        · have ht : foldTok (some r, bs) = (some (r + 32), Lib.encodeRune ((r + 32 : Nat) : Int)) := by simp [foldTok, hc]
          have hv := (cap_valid r hc).1
          have hh := fun x => tok_enc (r + 32) hv x
          have hE := enc_ne ((r + 32 : Nat) : Int)
          rw [ht]
          clear ht hv hc
          generalize Lib.encodeRune ((r + 32 : Nat) : Int) = E at *
          generalize r + 32 = r2 at *
          refine ⟨⟨hE, hh _, g⟩, ?_⟩
          rw [rune_lead (some r, bs) _ _ h1 (by simp) h2, rune_lead (some r2, E) [] _ hE (by simp) (hh [])]
        · have ht : foldTok (some r, bs) = (some r, bs) := by simp [foldTok, hc]
          rw [ht]
          refine ⟨⟨h1, tok_local _ _ _ h1 (by simp) h2, g⟩, ?_⟩
          rw [rune_lead (some r, bs) _ _ h1 (by simp) h2, rune_lead (some r, bs) _ _ h1 (by simp) h2]
theorem tk_fold (l : List UInt8) : tk (pFold l) = (tk l).map foldTok := by
  rw [pFold_tok]
  exact tk_flat _ (good_fold _ (good_of_tk l)).1
theorem foldTok_twice (t : Tok) : foldTok (foldTok t) = foldTok t := by
  obtain ⟨o, bs⟩ := t
  cases o with
  | none => rfl
  | some r =>
    by_cases hc : pCapital r = true
    · have := (cap_valid r hc).2
      simp [foldTok, hc, this]
    · simp [foldTok, hc]
/-- A text that is folded twice is folded once. -/
theorem pFold_twice (l : List UInt8) : pFold (pFold l) = pFold l := by
  rw [pFold_tok (pFold l), tk_fold, List.map_map, pFold_tok l]
  congr 1
  apply List.map_congr_left
  intro t _
  exact foldTok_twice t
theorem name_toks : ∀ (ts : List Tok) (i : Nat), nameToks i ts = true → ∀ t ∈ ts, ∃ r, t.1 = some r ∧ (pSmall r = true ∨ pDigit r = true)
  | [], _, _, t, ht => by cases ht
  | t :: ts, i, h, x, hx => by
    unfold nameToks at h
    rw [Bool.and_eq_true] at h
    rcases List.mem_cons.1 hx with rfl | hx
    · have h1 := h.1
      unfold nameTok at h1
      split at h1
      · cases h1
      · rename_i r hr
        refine ⟨r, hr, ?_⟩
        simp only [nameRune, Bool.or_eq_true, Bool.and_eq_true] at h1
        rcases h1 with h1 | h1
        · exact .inl h1
        · exact .inr h1.2
    · exact name_toks ts (i + 1) h.2 x hx
theorem small_facts (r : Nat) (h : pSmall r = true ∨ pDigit r = true) : pCapital r = false ∧ 48 ≤ r ∧ r ≠ 127 ∧ r ≤ 969 := by
  simp [pSmall, pDigit, pCapital] at *
  omega
theorem right_parts (l : List UInt8) (h : pRight l = true) : nameToks 0 (tk l) = true ∧ 1 ≤ (tk l).length ∧ (tk l).length ≤ 12 := by
  rw [pRight_tok] at h
  simpa [Bool.and_eq_true] using h
/-- A name is as it is without capitals. -/
theorem right_fold (l : List UInt8) (h : pRight l = true) : pFold l = l := by
  obtain ⟨h1, _, _⟩ := right_parts l h
  have hn := name_toks _ _ h1
  rw [pFold_tok]
  have e : (tk l).map foldTok = tk l := by
    rw [List.map_congr_left (g := id), List.map_id]
    intro t ht
    obtain ⟨r, hr, hs⟩ := hn t ht
    have hf := (small_facts r hs).1
    obtain ⟨o, bs⟩ := t
    simp only at hr
    subst hr
    simp [foldTok, hf]
  rw [e, flat_of_tk]
theorem right_says (l : List UInt8) (h : pRight l = true) : pSays l = true := by
  obtain ⟨h1, _, h3⟩ := right_parts l h
  have hn := name_toks _ _ h1
  rw [pSays_tok, Bool.and_eq_true]
  refine ⟨List.all_eq_true.2 fun t ht => ?_, by simp; omega⟩
  obtain ⟨r, hr, hs⟩ := hn t ht
  have hf := small_facts r hs
  unfold sayTok
  rw [hr]
  simp
  omega
theorem right_ne (l : List UInt8) (h : pRight l = true) : 1 ≤ l.length := by
  obtain ⟨_, h2, _⟩ := right_parts l h
  cases l with
  | nil => rw [tk_nil] at h2; simp at h2
  | cons b l => simp
theorem name_take : ∀ (ts : List Tok) (i j : Nat), nameToks i ts = true → nameToks i (ts.take j) = true
  | [], i, j, _ => by simp [nameToks]
  | t :: ts, i, 0, _ => by simp [nameToks]
  | t :: ts, i, j + 1, h => by
    unfold nameToks at h
    rw [Bool.and_eq_true] at h
    rw [List.take_succ_cons]
    unfold nameToks
    rw [h.1, name_take ts (i + 1) j h.2]; rfl
theorem enc_len2 (r : Nat) (h : r ≤ 969) : (Lib.encodeRune (r : Int)).length ≤ 2 := by
  unfold Lib.encodeRune
  by_cases h1 : r ≤ 127
  · rw [Lib.encodeRuneZ_one (by omega) (by omega)]; simp
  · rw [Lib.encodeRuneZ_two (by omega) (by omega)]; simp
/-- A name that was cut is one, or a stray is left of a rune. -/
theorem cut_name : ∀ (ts : List Tok) (i k : Nat), Good ts → nameToks i ts = true → (∃ j, tk ((flat ts).take k) = ts.take j ∧ (0 < k → ts ≠ [] → 0 < j)) ∨ ∃ t ∈ tk ((flat ts).take k), t.1 = none
  | [], i, k, _, _ => by left; exact ⟨0, by simp [tk_nil], fun _ h => absurd rfl h⟩
  | t :: ts, i, k, ⟨h1, h2, h3⟩, hn => by
    obtain ⟨r, hr, hs⟩ := name_toks _ _ hn t (by simp)
    have hr969 := (small_facts r hs).2.2.2
    have hsn : t.1 ≠ none := by rw [hr]; simp
    have hne : t.2 ++ flat ts ≠ [] := by simp [h1]
    have hw := headTok_width t _ hne h2
    have hnv : ¬ ((Lib.decodeL (t.2 ++ flat ts)).1 = 65533 ∧ (Lib.decodeL (t.2 ++ flat ts)).2 = 1) := by
      intro hc
      apply hsn
      have := congrArg (·.1) h2
      simp only [headTok, if_pos hc] at this
      exact this.symm
    have hdr : (Lib.decodeL (t.2 ++ flat ts)).1 = r := by
      have := congrArg (·.1) h2
      simp only [headTok, if_neg hnv] at this
      rw [hr] at this
      exact Option.some.inj this
    have hen := Lib.encode_decode _ hne hnv
    rw [hdr, hw, List.take_left] at hen
    have hl2 := enc_len2 r hr969
    rw [hen] at hl2
    rw [flat_cons]
    by_cases hk : t.2.length ≤ k
    · have hx : (t.2 ++ flat ts).take k = t.2 ++ (flat ts).take (k - t.2.length) := by
        rw [List.take_append, List.take_of_length_le hk]
      have hh := tok_local t _ ((flat ts).take (k - t.2.length)) h1 hsn h2
      have hne2 : t.2 ++ (flat ts).take (k - t.2.length) ≠ [] := by simp [h1]
      have hw2 := headTok_width t _ hne2 hh
      rw [hx, tk_cons _ hne2, hh, hw2, List.drop_left]
      have hn2 : nameToks (i + 1) ts = true := by
        unfold nameToks at hn
        rw [Bool.and_eq_true] at hn
        exact hn.2
      rcases cut_name ts (i + 1) (k - t.2.length) h3 hn2 with ⟨j, hj, _⟩ | ⟨s, hs1, hs2⟩
      · left; exact ⟨j + 1, by rw [hj, List.take_succ_cons], fun _ _ => by omega⟩
      · right; exact ⟨s, by simp [hs1], hs2⟩
    · by_cases hk0 : k = 0
      · left; exact ⟨0, by simp [hk0, tk_nil], fun h => by omega⟩
      · right
        have hlen : t.2.length = 2 := by omega
        obtain ⟨o, bs⟩ := t
        match bs, hlen with
        | [b0, b1], _ =>
          have hk1 : k = 1 := by simp at hk; omega
          subst hk1
          have hb : 128 ≤ b0.toNat := by
            by_cases hb : b0.toNat < 128
            · exfalso
              have hd : Lib.decodeL ([b0, b1] ++ flat ts) = (b0.toNat, 1) := by
                rw [Lib.decodeL_N]; exact Lib.decodeN_ascii _ _ _ _ _ (by simpa using hb)
              have hw' : (Lib.decodeL ([b0, b1] ++ flat ts)).2 = 2 := hw
              rw [hd] at hw'; cases hw'
            · omega
          have hd : Lib.decodeL [b0] = (65533, 1) := by
            rw [Lib.decodeL_N]; exact Lib.decodeN_alone _ _ _ _ _ (by simpa using hb) (.inl (by simp))
          refine ⟨headTok [b0], ?_, ?_⟩
          · show headTok [b0] ∈ tk [b0]
            rw [tk_cons [b0] (by simp)]; simp
          · simp [headTok, hd]
theorem right_cut (l : List UInt8) (h : pRight l = true) (k : Nat) (hk : 1 ≤ k) : 0 < pStrays (l.take k) ∨ pRight (l.take k) = true := by
  obtain ⟨h1, h2, h3⟩ := right_parts l h
  have hc := cut_name (tk l) 0 k (good_of_tk l) h1
  rw [flat_of_tk] at hc
  rcases hc with ⟨j, hj, hj0⟩ | ⟨t, ht, hn⟩
  · right
    have hne : tk l ≠ [] := by intro h0; rw [h0] at h2; simp at h2
    have hjp := hj0 (by omega) hne
    rw [pRight_tok, hj, name_take _ _ _ h1]
    simp only [Bool.true_and, Bool.and_eq_true, decide_eq_true_eq, List.length_take]
    omega
  · left
    rw [pStrays_tok]
    exact List.length_pos_iff.2 (List.ne_nil_of_mem (List.mem_filter.2 ⟨ht, by simp [hn]⟩))
theorem good_len : ∀ ts : List Tok, Good ts → ts.length ≤ (flat ts).length
  | [], _ => by simp
  | t :: ts, ⟨h1, _, h3⟩ => by
    have := good_len ts h3
    have h1' : 0 < t.2.length := List.length_pos_iff.2 h1
    rw [flat_cons, List.length_append, List.length_cons]; omega
end Go.Proofs.YtjfnaedcdmmigaaDoor

namespace Go.Proofs.YtjfnaedcdmmigaaDoor
open Go.RowKit
set_option linter.unusedSimpArgs false
set_option linter.unusedVariables false

/-- Is the byte at a place from low to high? -/
def wi (l : List UInt8) (p lo hi : Nat) : Bool := decide (p < l.length) && (decide (lo ≤ (l.getD p 0).toNat) && decide ((l.getD p 0).toNat ≤ hi))
theorem within_calls (l : List UInt8) (hl : l.length ≤ 4611686018427387904) (p lo hi : Nat) (w : World) :
    Calls Tryd.prog 125 #[.string (str l), .int .i64 (p : Int), .int .u8 (lo : Int), .int .u8 (hi : Int)] w fun e w' => e = .returned (.bool (wi l p lo hi)) ∧ w' = w := by
  unfold wi
  by_cases hp : p < l.length
  · have hix := str_index l p hp
    have d0 : decide (p < l.length) = true := by simpa using hp
    generalize (l.getD p 0).toNat = c at *
    have b1 : (p : Int) < (l.length : Int) := by omega
    cases d1 : decide (lo ≤ c) <;> cases d2 : decide (c ≤ hi)
    all_goals
      go_enter Tryd.func125, Tryd.ntmps125
      go_wp2
      go_ret
      exact ⟨by simp [d0], rfl⟩
  · have d0 : decide (p < l.length) = false := by simpa using hp
    go_enter Tryd.func125, Tryd.ntmps125
    go_wp2
    go_ret
    exact ⟨by simp [d0], rfl⟩
/-- What it counts as: a rune's number; a stray's byte and 2000000. -/
def tokNum (t : Tok) : Nat := match t.1 with
  | some r => r
  | none => 2000000 + (t.2.getD 0 0).toNat
theorem tokNum_stray (m : List UInt8) (h : Lib.decodeL m = (65533, 1)) : tokNum (headTok m) = 2000000 + (m.getD 0 0).toNat := by
  unfold tokNum headTok
  rw [h]
  cases m <;> simp
theorem tokNum_rune (m : List UInt8) (r w : Nat) (h : Lib.decodeL m = (r, w)) (hw : w ≠ 1 ∨ r ≠ 65533) : tokNum (headTok m) = r := by
  unfold tokNum headTok
  rw [h]
  rw [if_neg (by simp only; omega)]
end Go.Proofs.YtjfnaedcdmmigaaDoor
