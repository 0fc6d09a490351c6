/-
  RUNES' BYTES READ AGAIN; STRAYS STAY STRAYS; WHAT A RANGE HANDS OUT AS RUNES AND STRAYS. Plain lemmas.
-/
import Derived.Test.YtlanplknendmaaaToks
import Derived.Test.YtlanplknendmaaaNameStray
namespace Go.Proofs.Ytlanplknendmaaa
open Go
set_option linter.unusedSimpArgs false
set_option linter.unusedVariables false

def validRune (r : Nat) : Prop := r < 55296 ∨ (57344 ≤ r ∧ r ≤ 1114111)
theorem u8z (z : Nat) (h : z < 256) : ((z : Int).toNat.toUInt8).toNat = z := by
  simp [Nat.toUInt8]; omega
/-- A rune's bytes, read again. -/
theorem dec_enc (r : Nat) (h : validRune r) (x : List UInt8) : Lib.decodeL (Lib.encodeRune (r : Int) ++ x) = (r, (Lib.encodeRune (r : Int)).length) := by
  unfold validRune at h
  rw [Lib.decodeL_N]
  unfold Lib.encodeRune
  by_cases h1 : r ≤ 127
  · rw [Lib.encodeRuneZ_one (by omega) (by omega)]
    simp only [List.map_cons, List.map_nil, List.cons_append, List.nil_append, List.getD_cons_zero]
    rw [u8z r (by omega), Lib.decodeN_ascii _ _ _ _ _ (by omega)]; rfl
  · by_cases h2 : r ≤ 2047
    · rw [Lib.encodeRuneZ_two (by omega) (by omega)]
      simp only [List.map_cons, List.map_nil, List.cons_append, List.nil_append, List.getD_cons_zero, List.getD_cons_succ]
      rw [show (192 : Int) + (r : Int) / 64 = ((192 + r / 64 : Nat) : Int) by omega, show (128 : Int) + (r : Int) % 64 = ((128 + r % 64 : Nat) : Int) by omega, u8z _ (by omega), u8z _ (by omega)]
      rw [sh2 _ _ _ _ _ (by omega) (by simp) (by omega) (by omega)]
      refine Prod.ext ?_ rfl
      show (192 + r / 64) % 32 * 64 + (128 + r % 64) % 64 = r
      omega
    · by_cases h3 : r ≤ 65535
      · rw [Lib.encodeRuneZ_three (by omega)]
        simp only [List.map_cons, List.map_nil, List.cons_append, List.nil_append, List.getD_cons_zero, List.getD_cons_succ]
        rw [show (224 : Int) + (r : Int) / 4096 = ((224 + r / 4096 : Nat) : Int) by omega, show (128 : Int) + (r : Int) / 64 % 64 = ((128 + r / 64 % 64 : Nat) : Int) by omega, show (128 : Int) + (r : Int) % 64 = ((128 + r % 64 : Nat) : Int) by omega, u8z _ (by omega), u8z _ (by omega), u8z _ (by omega)]
        rw [sh3 _ _ _ _ _ (by omega) (by simp) (by omega) (by omega) (by omega) (by omega)]
        refine Prod.ext ?_ rfl
        show (224 + r / 4096) % 16 * 4096 + (128 + r / 64 % 64) % 64 * 64 + (128 + r % 64) % 64 = r
        omega
      · rw [Lib.encodeRuneZ_four (by omega) (by omega)]
        simp only [List.map_cons, List.map_nil, List.cons_append, List.nil_append, List.getD_cons_zero, List.getD_cons_succ]
        rw [show (240 : Int) + (r : Int) / 262144 = ((240 + r / 262144 : Nat) : Int) by omega, show (128 : Int) + (r : Int) / 4096 % 64 = ((128 + r / 4096 % 64 : Nat) : Int) by omega, show (128 : Int) + (r : Int) / 64 % 64 = ((128 + r / 64 % 64 : Nat) : Int) by omega, show (128 : Int) + (r : Int) % 64 = ((128 + r % 64 : Nat) : Int) by omega, u8z _ (by omega), u8z _ (by omega), u8z _ (by omega), u8z _ (by omega)]
        rw [sh4 _ _ _ _ _ (by omega) (by simp) (by omega) (by omega) (by omega) (by omega) (by omega)]
        refine Prod.ext ?_ rfl
        show (240 + r / 262144) % 8 * 262144 + (128 + r / 4096 % 64) % 64 * 4096 + (128 + r / 64 % 64) % 64 * 64 + (128 + r % 64) % 64 = r
        omega
theorem enc_ne (r : Int) : Lib.encodeRune r ≠ [] := by
  unfold Lib.encodeRune Lib.encodeRuneZ
  repeat' split
  all_goals simp
theorem tok_enc (r : Nat) (h : validRune r) (x : List UInt8) : headTok (Lib.encodeRune (r : Int) ++ x) = (some r, Lib.encodeRune (r : Int)) := by
  unfold headTok
  rw [dec_enc r h x]
  have hc : ¬ (r = 65533 ∧ (Lib.encodeRune (r : Int)).length = 1) := by
    rintro ⟨rfl, h2⟩
    revert h2; decide
  rw [if_neg hc]; simp
/-- A rune that was read is one. -/
theorem dec_valid (l : List UInt8) (hne : l ≠ []) (hv : ¬ ((Lib.decodeL l).1 = 65533 ∧ (Lib.decodeL l).2 = 1)) : validRune (Lib.decodeL l).1 := by
  unfold validRune
  rw [Lib.decodeL_N l] at hv ⊢
  have k0 := (l.getD 0 0).toNat_lt
  have k1 := (l.getD 1 0).toNat_lt
  rcases Lib.decodeN_shape l.length (l.getD 0 0).toNat (l.getD 1 0).toNat (l.getD 2 0).toNat (l.getD 3 0).toNat with ⟨c, e⟩ | ⟨c1, c2, c3, cv, e⟩ | ⟨c1, c2, c3, c4, cv, cs, e⟩ | ⟨c1, c2, c3, c4, c5, cv, cw, e⟩ | e
  · rw [e]; dsimp only; omega
  · rw [e]; dsimp only; omega
  · rw [e]; dsimp only; omega
  · rw [e]; dsimp only; omega
  · exact absurd ⟨by rw [e], by rw [e]⟩ hv
/-! Strays -/
def cont (b : UInt8) : Bool := b.toNat / 64 == 2
def lead (l : List UInt8) : List UInt8 := l.takeWhile cont
theorem lead_cons {x y : List UInt8} {b : UInt8} (h : lead x = lead (b :: y)) (hb : b.toNat / 64 = 2) : ∃ x', x = b :: x' ∧ lead x' = lead y := by
  have hc : cont b = true := by simp [cont, hb]
  unfold lead at h
  rw [List.takeWhile_cons, if_pos hc] at h
  cases x with
  | nil => simp at h
  | cons c x =>
    rw [List.takeWhile_cons] at h
    split at h
    · injection h with h1 h2
      subst h1
      exact ⟨x, rfl, h2⟩
    · cases h
theorem getD1 (b : UInt8) (y : List UInt8) (h : 1 < (b :: y).length) : ∃ c y', y = c :: y' := by
  cases y with
  | nil => simp at h
  | cons c y' => exact ⟨c, y', rfl⟩
/-- A stray is one by the continuing bytes behind it alone. -/
theorem stray_ctx (b : UInt8) (x y : List UInt8) (h : Lib.decodeL (b :: x) = (65533, 1)) (hl : lead x = lead y) : Lib.decodeL (b :: y) = (65533, 1) := by
  rw [Lib.decodeL_N (b :: y)]
  rcases Lib.decodeN_shape (b :: y).length ((b :: y).getD 0 0).toNat ((b :: y).getD 1 0).toNat ((b :: y).getD 2 0).toNat ((b :: y).getD 3 0).toNat with ⟨c, e⟩ | ⟨c1, c2, c3, cv, e⟩ | ⟨c1, c2, c3, c4, cv, cs, e⟩ | ⟨c1, c2, c3, c4, c5, cv, cw, e⟩ | e
  · exfalso
    rw [Lib.decodeL_N, Lib.decodeN_ascii _ _ _ _ _ (by simpa using c)] at h
    have := b.toNat_lt
    simp at h
    omega
  · exfalso
    obtain ⟨y0, y', rfl⟩ := getD1 b y c2
    simp only [List.getD_cons_zero, List.getD_cons_succ] at c1 c3 cv
    obtain ⟨x', rfl, _⟩ := lead_cons hl c3
    rw [Lib.decodeL_N, sh2 _ _ _ _ _ (by simpa using c1) (by simp) (by simpa using c3) (by simpa using cv)] at h
    simp at h
  · exfalso
    obtain ⟨y0, y', rfl⟩ := getD1 b y (by omega)
    obtain ⟨y1, y'', rfl⟩ := getD1 y0 y' (by simp at c2 ⊢; omega)
    simp only [List.getD_cons_zero, List.getD_cons_succ] at c1 c3 c4 cv cs
    obtain ⟨x', rfl, hx⟩ := lead_cons hl c3
    obtain ⟨x'', rfl, _⟩ := lead_cons hx c4
    rw [Lib.decodeL_N, sh3 _ _ _ _ _ (by simpa using c1) (by simp) (by simpa using c3) (by simpa using c4) (by simpa using cv) (by simpa using cs)] at h
    simp at h
  · exfalso
    obtain ⟨y0, y', rfl⟩ := getD1 b y (by omega)
    obtain ⟨y1, y'', rfl⟩ := getD1 y0 y' (by simp at c2 ⊢; omega)
    obtain ⟨y2, y3, rfl⟩ := getD1 y1 y'' (by simp at c2 ⊢; omega)
    simp only [List.getD_cons_zero, List.getD_cons_succ] at c1 c3 c4 c5 cv cw
    obtain ⟨x', rfl, hx⟩ := lead_cons hl c3
    obtain ⟨x'', rfl, hx2⟩ := lead_cons hx c4
    obtain ⟨x3, rfl, _⟩ := lead_cons hx2 c5
    rw [Lib.decodeL_N, sh4 _ _ _ _ _ (by simpa using c1) (by simp) (by simpa using c3) (by simpa using c4) (by simpa using c5) (by simpa using cv) (by simpa using cw)] at h
    simp at h
  · exact e
/-- A rune's first byte is no continuing one. -/
theorem rune_lead (t : Tok) (x y : List UInt8) (hne : t.2 ≠ []) (hs : t.1 ≠ none) (h : headTok (t.2 ++ x) = t) : lead (t.2 ++ y) = [] := by
  obtain ⟨o, bs⟩ := t
  cases bs with
  | nil => exact absurd rfl hne
  | cons b bs =>
    show (b :: (bs ++ y)).takeWhile cont = []
    rw [List.takeWhile_cons]
    split
    · rename_i hc
      exfalso
      have hb : b.toNat / 64 = 2 := by simpa [cont] using hc
      have hd : Lib.decodeL (b :: bs ++ x) = (65533, 1) := by
        rw [Lib.decodeL_N]; exact Lib.decodeN_cont _ _ _ _ _ (by simpa using hb)
      apply hs
      have h2 := congrArg (·.1) h
      have hd' : Lib.decodeL ((o, b :: bs).2 ++ x) = (65533, 1) := hd
      simp only [headTok, hd', and_self, if_true] at h2
      exact h2.symm
    · rfl
theorem stray_tok (b : UInt8) (x : List UInt8) : headTok ([b] ++ x) = (none, [b]) ↔ Lib.decodeL (b :: x) = (65533, 1) := by
  constructor
  · intro h
    have h1 := congrArg (·.1) h
    simp only [headTok, List.cons_append, List.nil_append] at h1
    split at h1
    · rename_i hc; exact Prod.ext hc.1 hc.2
    · cases h1
  · intro h
    unfold headTok
    have h' : Lib.decodeL ([b] ++ x) = (65533, 1) := h
    rw [h']; simp
theorem tok_none (t : Tok) (x : List UInt8) (hne : t.2 ≠ []) (h : headTok (t.2 ++ x) = t) (hs : t.1 = none) : ∃ b, t = (none, [b]) := by
  have hw := headTok_width t x (by simp [hne]) h
  have h1 := congrArg (·.1) h
  rw [hs] at h1
  simp only [headTok] at h1
  split at h1
  · rename_i hc
    rw [hc.2] at hw
    obtain ⟨o, bs⟩ := t
    match bs, hw with
    | [b], _ => exact ⟨b, by simp at hs; rw [hs]⟩
  · cases h1
end Go.Proofs.Ytlanplknendmaaa
