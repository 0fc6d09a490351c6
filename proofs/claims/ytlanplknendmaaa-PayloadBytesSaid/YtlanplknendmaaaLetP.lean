/-
  LETTERS, PLAIN: their bytes, the letter that bytes are, and back.
-/
import Derived.Test.YtlanplknendmaaaWireBackP
import Derived.Test.YtlanplknendmaaaNameRight
namespace Go.Proofs.Ytlanplknendmaaa
open Go.RowKit
set_option linter.unusedSimpArgs false
set_option linter.unusedVariables false

theorem decode_four (s : ByteArray) (pos : Nat) : (Utf8.decode s pos).2 ≤ 4 := by
  simp only [Utf8.decode]
  repeat' split
  all_goals simp_all [Utf8.runeError]
theorem itemsFrom_four (s : ByteArray) : ∀ (fuel pos : Nat), s.size ≤ pos + fuel → s.size ≤ pos + 4 * (itemsFrom s fuel pos).length
  | 0, pos, h => by simp [itemsFrom]; omega
  | f + 1, pos, h => by
    unfold itemsFrom
    split
    · rename_i hp
      have h1 := width_pos s pos hp
      have h2 := decode_four s pos
      have := itemsFrom_four s f (pos + (Utf8.decode s pos).2) (by omega)
      simp only [List.length_cons]; omega
    · omega
/-- A name has at most 48 bytes. -/
theorem pRight_len (l : List UInt8) (h : pRight l = true) : l.length ≤ 48 := by
  have h1 := itemsFrom_four (str l) l.length 0 (by rw [str_size]; omega)
  rw [str_size] at h1
  simp only [pRight, Bool.and_eq_true, decide_eq_true_eq] at h
  have h2 := h.2.2
  unfold items at h2
  omega

/-- A letter. -/
structure Lt where
  (fr no tt : Nat) (se re bo : List UInt8)
def Lt.zero : Lt := ⟨0, 0, 0, [], [], []⟩
structure Lt.ok (x : Lt) : Prop where
  (fr : x.fr < 4294967296) (no : x.no < 4294967296) (tt : x.tt < 4294967296)
def Lt.cells (x : Lt) : Array Value := #[.int .u32 (x.fr : Int), .int .u32 (x.no : Int), .int .u32 (x.tt : Int), .string (str x.se), .string (str x.re), .string (str x.bo)]
def Lt.right (x : Lt) : Bool := if pRight x.se then (if pRight x.re then decide (x.bo.length ≤ 300) else false) else false
def Lt.bytes (x : Lt) : List UInt8 := pBig x.fr 4 ++ (pBig x.no 4 ++ (pBig x.tt 4 ++ (pText4 x.se ++ (pText4 x.re ++ pText4 x.bo))))
def Rd.l1 (r : Rd) : Nat × Rd := r.num 4
def Rd.l2 (r : Rd) : Nat × Rd := r.l1.2.num 4
def Rd.l3 (r : Rd) : Nat × Rd := r.l2.2.num 4
def Rd.l4 (r : Rd) : List UInt8 × Rd := r.l3.2.text 48
def Rd.l5 (r : Rd) : List UInt8 × Rd := r.l4.2.text 48
def Rd.l6 (r : Rd) : List UInt8 × Rd := r.l5.2.text 300
def Rd.letter (r : Rd) : Lt := ⟨r.l1.1, r.l2.1, r.l3.1, r.l4.1, r.l5.1, r.l6.1⟩
/-- The letter that bytes are, and what is wrong with them. -/
def pLRead (l : List UInt8) : Lt × Int :=
  if (⟨l, 0⟩ : Rd).l6.2.end' ≠ 0 then (Lt.zero, (⟨l, 0⟩ : Rd).l6.2.end') else if (⟨l, 0⟩ : Rd).letter.right then ((⟨l, 0⟩ : Rd).letter, 0) else (Lt.zero, 4)
theorem Rd.text_rest (r : Rd) (m : Int) : (r.text m).2.rest.length ≤ r.rest.length := Nat.le_trans (Rd.take_rest _ _) (r.len_rest m)
theorem Rd.num_rest (r : Rd) (n : Nat) : (r.num n).2.rest.length ≤ r.rest.length := Rd.take_rest _ _
theorem Rd.l1_rest (r : Rd) : r.l1.2.rest.length ≤ r.rest.length := Rd.num_rest _ _
theorem Rd.l2_rest (r : Rd) : r.l2.2.rest.length ≤ r.rest.length := Nat.le_trans (Rd.num_rest _ _) r.l1_rest
theorem Rd.l3_rest (r : Rd) : r.l3.2.rest.length ≤ r.rest.length := Nat.le_trans (Rd.num_rest _ _) r.l2_rest
theorem Rd.l4_rest (r : Rd) : r.l4.2.rest.length ≤ r.rest.length := Nat.le_trans (Rd.text_rest _ _) r.l3_rest
theorem Rd.l5_rest (r : Rd) : r.l5.2.rest.length ≤ r.rest.length := Nat.le_trans (Rd.text_rest _ _) r.l4_rest
theorem Rd.l6_rest (r : Rd) : r.l6.2.rest.length ≤ r.rest.length := Nat.le_trans (Rd.text_rest _ _) r.l5_rest
theorem Rd.letter_ok (r : Rd) : r.letter.ok := ⟨Rd.num_lt _ 4, Rd.num_lt _ 4, Rd.num_lt _ 4⟩
theorem Rd.take_len (r : Rd) (n : Nat) : (r.take n).1.length ≤ r.rest.length := by
  unfold Rd.take
  split
  · simp
  · split <;> simp
    omega
theorem Rd.text_len (r : Rd) (m : Int) : (r.text m).1.length ≤ r.rest.length := Nat.le_trans (Rd.take_len _ _) (r.len_rest m)
theorem Rd.l4_len (r : Rd) : r.l4.1.length ≤ r.rest.length := Nat.le_trans (Rd.text_len _ _) r.l3_rest
theorem Rd.l5_len (r : Rd) : r.l5.1.length ≤ r.rest.length := Nat.le_trans (Rd.text_len _ _) r.l4_rest
theorem Rd.l6_len (r : Rd) : r.l6.1.length ≤ r.rest.length := Nat.le_trans (Rd.text_len _ _) r.l5_rest
theorem text_back' (s t : List UInt8) (m : Int) (hm : (s.length : Int) ≤ m) (h : s.length < 4294967296) : (⟨pText4 s ++ t, 0⟩ : Rd).text m = (s, ⟨t, 0⟩) := by
  simp only [Rd.text, pText4, List.append_assoc, len_back s.length h m hm, take_back s t s.length rfl]
theorem Lt.right_iff (x : Lt) : x.right = true ↔ pRight x.se = true ∧ pRight x.re = true ∧ x.bo.length ≤ 300 := by
  unfold Lt.right
  cases pRight x.se <;> cases pRight x.re <;> simp
/-- What is written is read as it was. -/
theorem letter_back (x : Lt) (h : x.ok) (hr : x.right = true) : pLRead x.bytes = (x, 0) := by
  obtain ⟨r1, r2, r3⟩ := x.right_iff.1 hr
  have n1 := pRight_len _ r1
  have n2 := pRight_len _ r2
  have e1 : (⟨x.bytes, 0⟩ : Rd).l1 = (x.fr, ⟨pBig x.no 4 ++ (pBig x.tt 4 ++ (pText4 x.se ++ (pText4 x.re ++ pText4 x.bo))), 0⟩) := num_back _ 4 h.fr _
  have e2 : (⟨x.bytes, 0⟩ : Rd).l2 = (x.no, ⟨pBig x.tt 4 ++ (pText4 x.se ++ (pText4 x.re ++ pText4 x.bo)), 0⟩) := by rw [Rd.l2, e1]; exact num_back _ 4 h.no _
  have e3 : (⟨x.bytes, 0⟩ : Rd).l3 = (x.tt, ⟨pText4 x.se ++ (pText4 x.re ++ pText4 x.bo), 0⟩) := by rw [Rd.l3, e2]; exact num_back _ 4 h.tt _
  have e4 : (⟨x.bytes, 0⟩ : Rd).l4 = (x.se, ⟨pText4 x.re ++ pText4 x.bo, 0⟩) := by rw [Rd.l4, e3]; exact text_back' _ _ 48 (by omega) (by omega)
  have e5 : (⟨x.bytes, 0⟩ : Rd).l5 = (x.re, ⟨pText4 x.bo, 0⟩) := by rw [Rd.l5, e4]; exact text_back' _ _ 48 (by omega) (by omega)
  have e6 : (⟨x.bytes, 0⟩ : Rd).l6 = (x.bo, ⟨[], 0⟩) := by
    rw [Rd.l6, e5]
    have := text_back' x.bo [] 300 (by omega) (by omega)
    rwa [List.append_nil] at this
  have el : (⟨x.bytes, 0⟩ : Rd).letter = x := by rw [Rd.letter, e1, e2, e3, e4, e5, e6]
  have ee : (⟨x.bytes, 0⟩ : Rd).l6.2.end' = 0 := by rw [e6]; rfl
  unfold pLRead
  rw [el, ee, hr]
  rfl
/-- What is read is written so. -/
theorem letter_read (l : List UInt8) (h : (pLRead l).2 = 0) : (pLRead l).1.right = true ∧ (pLRead l).1.bytes = l := by
  unfold pLRead at *
  split at h
  · rename_i hn; exact absurd h hn
  · rename_i hn
    have he : (⟨l, 0⟩ : Rd).l6.2.end' = 0 := by
      apply Classical.byContradiction; exact hn
    split at h
    · rename_i hr
      rw [if_neg hn, if_pos hr]
      refine ⟨hr, ?_⟩
      obtain ⟨o6, z⟩ := Rd.end_ok _ he
      obtain ⟨o5, t6⟩ := Rd.text_ok _ _ o6
      obtain ⟨o4, t5⟩ := Rd.text_ok _ _ o5
      obtain ⟨o3, t4⟩ := Rd.text_ok _ _ o4
      obtain ⟨o2, t3⟩ := Rd.num_ok _ _ o3
      obtain ⟨o1, t2⟩ := Rd.num_ok _ _ o2
      obtain ⟨o0, t1⟩ := Rd.num_ok _ _ o1
      change l = pBig (⟨l, 0⟩ : Rd).l1.1 4 ++ (⟨l, 0⟩ : Rd).l1.2.rest at t1
      change (⟨l, 0⟩ : Rd).l1.2.rest = pBig (⟨l, 0⟩ : Rd).l2.1 4 ++ (⟨l, 0⟩ : Rd).l2.2.rest at t2
      change (⟨l, 0⟩ : Rd).l2.2.rest = pBig (⟨l, 0⟩ : Rd).l3.1 4 ++ (⟨l, 0⟩ : Rd).l3.2.rest at t3
      change (⟨l, 0⟩ : Rd).l3.2.rest = pText4 (⟨l, 0⟩ : Rd).l4.1 ++ (⟨l, 0⟩ : Rd).l4.2.rest at t4
      change (⟨l, 0⟩ : Rd).l4.2.rest = pText4 (⟨l, 0⟩ : Rd).l5.1 ++ (⟨l, 0⟩ : Rd).l5.2.rest at t5
      change (⟨l, 0⟩ : Rd).l5.2.rest = pText4 (⟨l, 0⟩ : Rd).l6.1 ++ (⟨l, 0⟩ : Rd).l6.2.rest at t6
      rw [z, List.append_nil] at t6
      show pBig (⟨l, 0⟩ : Rd).l1.1 4 ++ (pBig (⟨l, 0⟩ : Rd).l2.1 4 ++ (pBig (⟨l, 0⟩ : Rd).l3.1 4 ++ (pText4 (⟨l, 0⟩ : Rd).l4.1 ++ (pText4 (⟨l, 0⟩ : Rd).l5.1 ++ pText4 (⟨l, 0⟩ : Rd).l6.1)))) = l
      rw [← t6, ← t5, ← t4, ← t3, ← t2]; exact t1.symm
    · rename_i hr
      cases h
end Go.Proofs.Ytlanplknendmaaa
