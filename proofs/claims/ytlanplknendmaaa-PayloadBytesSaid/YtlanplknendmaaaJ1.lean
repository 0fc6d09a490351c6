/-
  WHAT name's Right AND Says RETURN.
-/
/-
  LETTERS, PLAIN: their bytes, the letter that bytes are, and back.
-/
/-
  WHAT name's Says RETURNS.
-/
/-
  PAYLOADS, PLAIN: their bytes, the payload that bytes are, and back.
-/
/-
  EQUALITY OF ARRAYS AND STRUCTS BY VALUE, OF A VALUE WITH ITSELF. Over whatever program.
-/
/-
  WHAT package payload's Tag AND Right RETURN; TYPE ASSERTIONS.
-/
/-
  WHAT package payload's Right RETURNS.
-/
/-
  WHAT package payload's fields AND Bytes RETURN.
-/
/-
  WHAT package payload's take AND Read RETURN.
-/
/-
  A WHOLE ROW LOADED WHERE A GUARD LETS IT. Over whatever program.
-/
/-
  WHAT package payload's Read AND Same RETURN.
-/
/-
  WHAT package payload's Must DOES; THE LAYER's panics AND awake.
-/
import Derived.Test.YtlanplknendmaaaJ0
import Derived.DeepKeys
import Derived.Laws.StructEq
import Derived.WalkKit
import Derived.Deep.QuietTactic
import Derived.BigQuiet
import Derived.Defers
import Derived.Recover
namespace Go.Proofs.Ytlanplknendmaaa
open Go.RowKit
set_option linter.unusedSimpArgs false
set_option linter.unusedVariables false

/-- May the rune stand at that place of a name? -/
def nameRune (i r : Nat) : Bool := pSmall r || (i != 0 && pDigit r)
/-- All runes from place i on. -/
def nameFrom : Nat → List (Nat × Nat) → Bool
  | _, [] => true
  | i, x :: l => nameRune i x.2 && nameFrom (i + 1) l
def pRight (l : List UInt8) : Bool := nameFrom 0 (items l) && (decide (1 ≤ (items l).length) && decide ((items l).length ≤ 12))

set_option maxHeartbeats 2000000 in
set_option maxRecDepth 100000 in
theorem right_calls (l : List UInt8) (hl : l.length ≤ 4611686018427387904) (w : World) :
    Calls Try.prog 40 #[.string (str l)] w fun e w' => e = .returned (.bool (pRight l)) ∧ Below w.heap.size w w' := by
  have hsz : (str l).size = l.length := str_size l
  generalize hs : str l = s at *
  generalize hR : pRight l = R
  have HR := hide hR
  have Hs := hide hs
  have Hsz := hide hsz
  clear hs hsz hR
  go_enter Try.func40, Try.ntmps40
  go_wp2
  go_loopw [3] (fun a wr => ∃ (pos fuel : Nat) (dn : List (Nat × Nat)), a = .int .i64 (dn.length : Int) ∧ wr.heap[w.heap.size]? = some (.stringIter s pos) ∧ Below w.heap.size w wr ∧ Hid (items l = dn ++ itemsFrom s fuel pos) ∧ Hid (nameFrom 0 (items l) = nameFrom dn.length (itemsFrom s fuel pos)) ∧ l.length ≤ pos + fuel ∧ dn.length ≤ pos) (fun _ wr => l.length - wr.iterPos w.heap.size)
  case atStart =>
    have e : items l = itemsFrom s l.length 0 := by rw [items, unhide Hs]
    refine ⟨0, l.length, [], rfl, ?_, (Below.refl _ w).alloc (Nat.le_refl _) _, ?_, ?_, by omega, by simp⟩
    · have := World.iter_heap w s 0
      simpa using this
    · exact e
    · show nameFrom 0 (items l) = _; rw [e]; rfl
  case round =>
    obtain ⟨pos, fuel, dn, rfl, hit, hb, hI, hN, hf, hdn⟩ := hrel
    have hlt : w.heap.size < wr.heap.size := (Array.getElem?_eq_some_iff.1 hit).1
    have hsz := unhide Hsz
    by_cases hp : pos < s.size
    · have hnx : ∀ ty, (Instr.next (.pointer (some ⟨w.heap.size, 0, none⟩)) true ty).run Try.prog wr = _ := fun ty => Lib.run_next_any_at wr w.heap.size s pos ty hit hp
      have hwd := width_pos s pos hp
      have hd1 := decode_le s pos
      have hit2 := Lib.iterAt_heap wr w.heap.size s pos (pos + (Utf8.decode s pos).2) hit
      have hb2 := Lib.below_iterAt hb (k := w.heap.size) (Nat.le_refl _) s (pos + (Utf8.decode s pos).2)
      obtain ⟨f, rfl⟩ : ∃ f, fuel = f + 1 := ⟨fuel - 1, by omega⟩
      have hnew : items l = (dn ++ [(pos, (Utf8.decode s pos).1)]) ++ itemsFrom s f (pos + (Utf8.decode s pos).2) := by
        rw [unhide hI]; simp [itemsFrom, hp]
      have hname : nameFrom 0 (items l) = (nameRune dn.length (Utf8.decode s pos).1 && nameFrom (dn.length + 1) (itemsFrom s f (pos + (Utf8.decode s pos).2))) := by
        rw [unhide hN]; simp [itemsFrom, hp, nameFrom]
      generalize hr : (Utf8.decode s pos).1 = r at *
      generalize hwv : (Utf8.decode s pos).2 = wd at *
      have hpl : pos < l.length := by omega
      have Hnew := hide hnew
      have Hname := hide hname
      have Hit2 := hide hit2
      clear hnew hname hr hwv hI hN hit2 hsz
      generalize hdl : dn.length = dl at *
      have Hdl := hide hdl
      have w1 := wi64 ((dl : Int) + 1) (by omega) (by omega)
      clear hdl
      cases hc : nameRune dl r with
      | true =>
        have hgo : pSmall r = true ∨ (pSmall r = false ∧ dl ≠ 0 ∧ pDigit r = true) := by
          cases h1 : pSmall r with
          | true => exact .inl rfl
          | false => right; simpa [nameRune, h1] using hc
        have hrel' : (∃ pos_1 fuel dn_1, Value.int .i64 ((dl : Int) + 1) = Value.int .i64 ((dn_1 : List (Nat × Nat)).length : Int) ∧ (wr.iterAt w.heap.size s (pos + wd)).heap[w.heap.size]? = some (.stringIter s pos_1) ∧ Below w.heap.size w (wr.iterAt w.heap.size s (pos + wd)) ∧ Hid (items l = dn_1 ++ itemsFrom s fuel pos_1) ∧ Hid (nameFrom 0 (items l) = nameFrom dn_1.length (itemsFrom s fuel pos_1)) ∧ l.length ≤ pos_1 + fuel ∧ dn_1.length ≤ pos_1) ∧ l.length - (wr.iterAt w.heap.size s (pos + wd)).iterPos w.heap.size < l.length - wr.iterPos w.heap.size := by
          have hdl := unhide Hdl
          refine ⟨⟨pos + wd, f, dn ++ [(pos, r)], by simp [hdl], unhide Hit2, hb2, Hnew, ?_, by omega, by simp; omega⟩, ?_⟩
          · show nameFrom 0 (items l) = _
            rw [unhide Hname, hc, Bool.true_and, List.length_append, hdl]; rfl
          · simp only [World.iterPos, unhide Hit2, hit]; omega
        have Hrel' := hide hrel'
        clear hrel'
        rcases hgo with h1 | ⟨h1, h2, h3⟩
        · have Hsm := fun w => isSmall_calls r w
          rw [h1] at Hsm
          have HSm := hide Hsm
          clear Hsm h1 hc
          go_wp2_with (first
            | (go_at_call 55; refine (unhide HSm _).mono ?_; rintro e w' ⟨rfl, rfl⟩)
            | (go_at_call 56; refine (isDigit_calls _ _).mono ?_; rintro e w' ⟨rfl, rfl⟩))
          exact unhide Hrel'
        · have Hsm := fun w => isSmall_calls r w
          have Hdg := fun w => isDigit_calls r w
          rw [h1] at Hsm
          rw [h3] at Hdg
          have HSm := hide Hsm
          have HDg := hide Hdg
          have hd0 : ((dl : Int) == 0) = false := by simp; omega
          clear Hsm Hdg h1 h3 hc
          go_wp2_with (first
            | (go_at_call 55; refine (unhide HSm _).mono ?_; rintro e w' ⟨rfl, rfl⟩)
            | (go_at_call 56; refine (unhide HDg _).mono ?_; rintro e w' ⟨rfl, rfl⟩))
          exact unhide Hrel'
      | false =>
        have hRf : R = false := by rw [← unhide HR, pRight, unhide Hname, hc]; rfl
        have HRf := hide hRf
        have hsm : pSmall r = false := by cases h1 : pSmall r with | false => rfl | true => simp [nameRune, h1] at hc
        have Hsm := fun w => isSmall_calls r w
        rw [hsm] at Hsm
        have HSm := hide Hsm
        by_cases h0 : dl = 0
        · have hd0 : ((dl : Int) == 0) = true := by simp; omega
          clear Hsm hsm hc hRf
          go_wp2_with (go_at_call 55; refine (unhide HSm _).mono ?_; rintro e w' ⟨rfl, rfl⟩)
          go_ret
          exact ⟨by rw [unhide HRf]; rfl, hb2⟩
        · have hd0 : ((dl : Int) == 0) = false := by simp; omega
          have hdg : pDigit r = false := by cases h1 : pDigit r with | false => rfl | true => simp [nameRune, h1, h0] at hc
          have Hdg := fun w => isDigit_calls r w
          rw [hdg] at Hdg
          have HDg := hide Hdg
          clear Hsm hsm Hdg hdg hc hRf
          go_wp2_with (first
            | (go_at_call 55; refine (unhide HSm _).mono ?_; rintro e w' ⟨rfl, rfl⟩)
            | (go_at_call 56; refine (unhide HDg _).mono ?_; rintro e w' ⟨rfl, rfl⟩))
          go_ret
          exact ⟨by rw [unhide HRf]; rfl, hb2⟩
    · have hnx : ∀ ty, (Instr.next (.pointer (some ⟨w.heap.size, 0, none⟩)) true ty).run Try.prog wr = _ := fun ty => Lib.run_next_end_at wr w.heap.size s pos ty hit hp
      have hI' := unhide hI
      have hN' := unhide hN
      rw [itemsFrom_end s fuel pos hp, List.append_nil] at hI'
      rw [itemsFrom_end s fuel pos hp] at hN'
      have h1 : R = (decide (1 ≤ dn.length) && decide (dn.length ≤ 12)) := by
        rw [← unhide HR, pRight, hN', hI']; simp [nameFrom]
      have H1 := hide h1
      clear hI' hN' h1 hsz
      generalize dn.length = n at *
      cases d1 : decide ((1 : Int) ≤ (n : Int)) <;> cases d2 : decide ((n : Int) ≤ 12)
      all_goals
        go_wp2
        go_ret
        refine ⟨?_, hb⟩
        rw [unhide H1]
        simp only [decide_eq_true_eq, decide_eq_false_iff_not] at d1 d2
        simp
        omega
end Go.Proofs.Ytlanplknendmaaa

namespace Go.Proofs.Ytlanplknendmaaa
open Go.RowKit
set_option linter.unusedSimpArgs false
set_option linter.unusedVariables false

theorem decode_four (s : ByteArray) (pos : Nat) : (Utf8.decode s pos).2 ≤ 4 := by
  simp only [Utf8.decode]
  repeat' split
  all_goals simp_all [Utf8.runeError]
theorem itemsFrom_four (s : ByteArray) : ∀ (fuel pos : Nat), s.size ≤ pos + fuel → s.size ≤ pos + 4 * (itemsFrom s fuel pos).length
  | 0, pos, h => by simp [itemsFrom]; omega
  | f + 1, pos, h => by
    unfold itemsFrom
    split
    · rename_i hp
      have h1 := width_pos s pos hp
      have h2 := decode_four s pos
      have := itemsFrom_four s f (pos + (Utf8.decode s pos).2) (by omega)
      simp only [List.length_cons]; omega
    · omega
/-- A name has at most 48 bytes. -/
theorem pRight_len (l : List UInt8) (h : pRight l = true) : l.length ≤ 48 := by
  have h1 := itemsFrom_four (str l) l.length 0 (by rw [str_size]; omega)
  rw [str_size] at h1
  simp only [pRight, Bool.and_eq_true, decide_eq_true_eq] at h
  have h2 := h.2.2
  unfold items at h2
  omega

/-- A letter. -/
structure Lt where
  (fr no tt : Nat) (se re bo : List UInt8)
def Lt.zero : Lt := ⟨0, 0, 0, [], [], []⟩
structure Lt.ok (x : Lt) : Prop where
  (fr : x.fr < 4294967296) (no : x.no < 4294967296) (tt : x.tt < 4294967296)
def Lt.cells (x : Lt) : Array Value := #[.int .u32 (x.fr : Int), .int .u32 (x.no : Int), .int .u32 (x.tt : Int), .string (str x.se), .string (str x.re), .string (str x.bo)]
def Lt.right (x : Lt) : Bool := if pRight x.se then (if pRight x.re then decide (x.bo.length ≤ 300) else false) else false
def Lt.bytes (x : Lt) : List UInt8 := pBig x.fr 4 ++ (pBig x.no 4 ++ (pBig x.tt 4 ++ (pText4 x.se ++ (pText4 x.re ++ pText4 x.bo))))
def Rd.l1 (r : Rd) : Nat × Rd := r.num 4
def Rd.l2 (r : Rd) : Nat × Rd := r.l1.2.num 4
def Rd.l3 (r : Rd) : Nat × Rd := r.l2.2.num 4
def Rd.l4 (r : Rd) : List UInt8 × Rd := r.l3.2.text 48
def Rd.l5 (r : Rd) : List UInt8 × Rd := r.l4.2.text 48
def Rd.l6 (r : Rd) : List UInt8 × Rd := r.l5.2.text 300
def Rd.letter (r : Rd) : Lt := ⟨r.l1.1, r.l2.1, r.l3.1, r.l4.1, r.l5.1, r.l6.1⟩
/-- The letter that bytes are, and what is wrong with them. -/
def pLRead (l : List UInt8) : Lt × Int :=
  if (⟨l, 0⟩ : Rd).l6.2.end' ≠ 0 then (Lt.zero, (⟨l, 0⟩ : Rd).l6.2.end') else if (⟨l, 0⟩ : Rd).letter.right then ((⟨l, 0⟩ : Rd).letter, 0) else (Lt.zero, 4)
theorem Rd.text_rest (r : Rd) (m : Int) : (r.text m).2.rest.length ≤ r.rest.length := Nat.le_trans (Rd.take_rest _ _) (r.len_rest m)
theorem Rd.num_rest (r : Rd) (n : Nat) : (r.num n).2.rest.length ≤ r.rest.length := Rd.take_rest _ _
theorem Rd.l1_rest (r : Rd) : r.l1.2.rest.length ≤ r.rest.length := Rd.num_rest _ _
theorem Rd.l2_rest (r : Rd) : r.l2.2.rest.length ≤ r.rest.length := Nat.le_trans (Rd.num_rest _ _) r.l1_rest
theorem Rd.l3_rest (r : Rd) : r.l3.2.rest.length ≤ r.rest.length := Nat.le_trans (Rd.num_rest _ _) r.l2_rest
theorem Rd.l4_rest (r : Rd) : r.l4.2.rest.length ≤ r.rest.length := Nat.le_trans (Rd.text_rest _ _) r.l3_rest
theorem Rd.l5_rest (r : Rd) : r.l5.2.rest.length ≤ r.rest.length := Nat.le_trans (Rd.text_rest _ _) r.l4_rest
theorem Rd.l6_rest (r : Rd) : r.l6.2.rest.length ≤ r.rest.length := Nat.le_trans (Rd.text_rest _ _) r.l5_rest
theorem Rd.letter_ok (r : Rd) : r.letter.ok := ⟨Rd.num_lt _ 4, Rd.num_lt _ 4, Rd.num_lt _ 4⟩
theorem Rd.take_len (r : Rd) (n : Nat) : (r.take n).1.length ≤ r.rest.length := by
  unfold Rd.take
  split
  · simp
  · split <;> simp
    omega
theorem Rd.text_len (r : Rd) (m : Int) : (r.text m).1.length ≤ r.rest.length := Nat.le_trans (Rd.take_len _ _) (r.len_rest m)
theorem Rd.l4_len (r : Rd) : r.l4.1.length ≤ r.rest.length := Nat.le_trans (Rd.text_len _ _) r.l3_rest
theorem Rd.l5_len (r : Rd) : r.l5.1.length ≤ r.rest.length := Nat.le_trans (Rd.text_len _ _) r.l4_rest
theorem Rd.l6_len (r : Rd) : r.l6.1.length ≤ r.rest.length := Nat.le_trans (Rd.text_len _ _) r.l5_rest
theorem text_back' (s t : List UInt8) (m : Int) (hm : (s.length : Int) ≤ m) (h : s.length < 4294967296) : (⟨pText4 s ++ t, 0⟩ : Rd).text m = (s, ⟨t, 0⟩) := by
  simp only [Rd.text, pText4, List.append_assoc, len_back s.length h m hm, take_back s t s.length rfl]
theorem Lt.right_iff (x : Lt) : x.right = true ↔ pRight x.se = true ∧ pRight x.re = true ∧ x.bo.length ≤ 300 := by
  unfold Lt.right
  cases pRight x.se <;> cases pRight x.re <;> simp
/-- What is written is read as it was. -/
theorem letter_back (x : Lt) (h : x.ok) (hr : x.right = true) : pLRead x.bytes = (x, 0) := by
  obtain ⟨r1, r2, r3⟩ := x.right_iff.1 hr
  have n1 := pRight_len _ r1
  have n2 := pRight_len _ r2
  have e1 : (⟨x.bytes, 0⟩ : Rd).l1 = (x.fr, ⟨pBig x.no 4 ++ (pBig x.tt 4 ++ (pText4 x.se ++ (pText4 x.re ++ pText4 x.bo))), 0⟩) := num_back _ 4 h.fr _
  have e2 : (⟨x.bytes, 0⟩ : Rd).l2 = (x.no, ⟨pBig x.tt 4 ++ (pText4 x.se ++ (pText4 x.re ++ pText4 x.bo)), 0⟩) := by rw [Rd.l2, e1]; exact num_back _ 4 h.no _
  have e3 : (⟨x.bytes, 0⟩ : Rd).l3 = (x.tt, ⟨pText4 x.se ++ (pText4 x.re ++ pText4 x.bo), 0⟩) := by rw [Rd.l3, e2]; exact num_back _ 4 h.tt _
  have e4 : (⟨x.bytes, 0⟩ : Rd).l4 = (x.se, ⟨pText4 x.re ++ pText4 x.bo, 0⟩) := by rw [Rd.l4, e3]; exact text_back' _ _ 48 (by omega) (by omega)
  have e5 : (⟨x.bytes, 0⟩ : Rd).l5 = (x.re, ⟨pText4 x.bo, 0⟩) := by rw [Rd.l5, e4]; exact text_back' _ _ 48 (by omega) (by omega)
  have e6 : (⟨x.bytes, 0⟩ : Rd).l6 = (x.bo, ⟨[], 0⟩) := by
    rw [Rd.l6, e5]
    have := text_back' x.bo [] 300 (by omega) (by omega)
    rwa [List.append_nil] at this
  have el : (⟨x.bytes, 0⟩ : Rd).letter = x := by rw [Rd.letter, e1, e2, e3, e4, e5, e6]
  have ee : (⟨x.bytes, 0⟩ : Rd).l6.2.end' = 0 := by rw [e6]; rfl
  unfold pLRead
  rw [el, ee, hr]
  rfl
/-- What is read is written so. -/
theorem letter_read (l : List UInt8) (h : (pLRead l).2 = 0) : (pLRead l).1.right = true ∧ (pLRead l).1.bytes = l := by
  unfold pLRead at *
  split at h
  · rename_i hn; exact absurd h hn
  · rename_i hn
    have he : (⟨l, 0⟩ : Rd).l6.2.end' = 0 := by
      apply Classical.byContradiction; exact hn
    split at h
    · rename_i hr
      rw [if_neg hn, if_pos hr]
      refine ⟨hr, ?_⟩
      obtain ⟨o6, z⟩ := Rd.end_ok _ he
      obtain ⟨o5, t6⟩ := Rd.text_ok _ _ o6
      obtain ⟨o4, t5⟩ := Rd.text_ok _ _ o5
      obtain ⟨o3, t4⟩ := Rd.text_ok _ _ o4
      obtain ⟨o2, t3⟩ := Rd.num_ok _ _ o3
      obtain ⟨o1, t2⟩ := Rd.num_ok _ _ o2
      obtain ⟨o0, t1⟩ := Rd.num_ok _ _ o1
      change l = pBig (⟨l, 0⟩ : Rd).l1.1 4 ++ (⟨l, 0⟩ : Rd).l1.2.rest at t1
      change (⟨l, 0⟩ : Rd).l1.2.rest = pBig (⟨l, 0⟩ : Rd).l2.1 4 ++ (⟨l, 0⟩ : Rd).l2.2.rest at t2
      change (⟨l, 0⟩ : Rd).l2.2.rest = pBig (⟨l, 0⟩ : Rd).l3.1 4 ++ (⟨l, 0⟩ : Rd).l3.2.rest at t3
      change (⟨l, 0⟩ : Rd).l3.2.rest = pText4 (⟨l, 0⟩ : Rd).l4.1 ++ (⟨l, 0⟩ : Rd).l4.2.rest at t4
      change (⟨l, 0⟩ : Rd).l4.2.rest = pText4 (⟨l, 0⟩ : Rd).l5.1 ++ (⟨l, 0⟩ : Rd).l5.2.rest at t5
      change (⟨l, 0⟩ : Rd).l5.2.rest = pText4 (⟨l, 0⟩ : Rd).l6.1 ++ (⟨l, 0⟩ : Rd).l6.2.rest at t6
      rw [z, List.append_nil] at t6
      show pBig (⟨l, 0⟩ : Rd).l1.1 4 ++ (pBig (⟨l, 0⟩ : Rd).l2.1 4 ++ (pBig (⟨l, 0⟩ : Rd).l3.1 4 ++ (pText4 (⟨l, 0⟩ : Rd).l4.1 ++ (pText4 (⟨l, 0⟩ : Rd).l5.1 ++ pText4 (⟨l, 0⟩ : Rd).l6.1)))) = l
      rw [← t6, ← t5, ← t4, ← t3, ← t2]; exact t1.symm
    · rename_i hr
      cases h
end Go.Proofs.Ytlanplknendmaaa

namespace Go.Proofs.Ytlanplknendmaaa
open Go.RowKit
set_option linter.unusedSimpArgs false
set_option linter.unusedVariables false

/-- May that be said? -/
def sayRune (l : List UInt8) (x : Nat × Nat) : Bool := !(pStray l x.1 x.2) && (!decide (x.2 < 32) && !(x.2 == 127))
def pSays (l : List UInt8) : Bool := (items l).all (sayRune l) && decide ((items l).length ≤ 64)

set_option maxHeartbeats 2000000 in
set_option maxRecDepth 100000 in
theorem says_calls (l : List UInt8) (hl : l.length ≤ 4611686018427387904) (w : World) :
    Calls Try.prog 41 #[.string (str l)] w fun e w' => e = .returned (.bool (pSays l)) ∧ Below w.heap.size w w' := by
  have hsz : (str l).size = l.length := str_size l
  generalize hs : str l = s at *
  generalize hR : pSays l = R
  have HR := hide hR
  have Hs := hide hs
  have Hsz := hide hsz
  clear hs hsz hR
  go_enter Try.func41, Try.ntmps41
  go_wp2
  go_loopw [3] (fun a wr => ∃ (pos fuel : Nat) (dn : List (Nat × Nat)), a = .int .i64 (dn.length : Int) ∧ wr.heap[w.heap.size]? = some (.stringIter s pos) ∧ Below w.heap.size w wr ∧ Hid (items l = dn ++ itemsFrom s fuel pos) ∧ Hid (dn.all (sayRune l) = true) ∧ l.length ≤ pos + fuel ∧ dn.length ≤ pos) (fun _ wr => l.length - wr.iterPos w.heap.size)
  case atStart =>
    have e : items l = itemsFrom s l.length 0 := by rw [items, unhide Hs]
    refine ⟨0, l.length, [], rfl, ?_, (Below.refl _ w).alloc (Nat.le_refl _) _, e, rfl, by omega, by simp⟩
    have := World.iter_heap w s 0
    simpa using this
  case round =>
    obtain ⟨pos, fuel, dn, rfl, hit, hb, hI, hN, hf, hdn⟩ := hrel
    have hlt : w.heap.size < wr.heap.size := (Array.getElem?_eq_some_iff.1 hit).1
    have hsz := unhide Hsz
    by_cases hp : pos < s.size
    · have hnx : ∀ ty, (Instr.next (.pointer (some ⟨w.heap.size, 0, none⟩)) true ty).run Try.prog wr = _ := fun ty => Lib.run_next_any_at wr w.heap.size s pos ty hit hp
      have hwd := width_pos s pos hp
      have hd1 := decode_le s pos
      have hit2 := Lib.iterAt_heap wr w.heap.size s pos (pos + (Utf8.decode s pos).2) hit
      have hb2 := Lib.below_iterAt hb (k := w.heap.size) (Nat.le_refl _) s (pos + (Utf8.decode s pos).2)
      obtain ⟨f, rfl⟩ : ∃ f, fuel = f + 1 := ⟨fuel - 1, by omega⟩
      have hst := isStray_calls l pos (Utf8.decode s pos).1 (by omega) (by omega)
      rw [unhide Hs] at hst
      have hnew : items l = (dn ++ [(pos, (Utf8.decode s pos).1)]) ++ itemsFrom s f (pos + (Utf8.decode s pos).2) := by
        rw [unhide hI]; simp [itemsFrom, hp]
      generalize hr : (Utf8.decode s pos).1 = r at *
      generalize hwv : (Utf8.decode s pos).2 = wd at *
      have hpl : pos < l.length := by omega
      have Hnew := hide hnew
      have Hit2 := hide hit2
      generalize hdl : dn.length = dl at *
      have Hdl := hide hdl
      have w1 := wi64 ((dl : Int) + 1) (by omega) (by omega)
      clear hnew hr hwv hI hit2 hsz hdl
      have hbad : sayRune l (pos, r) = false → R = false := fun h => by
        rw [← unhide HR, pSays, unhide Hnew, List.all_append, List.all_append]; simp [h]
      have Hbad := hide hbad
      clear hbad
      cases hc : pStray l pos r with
      | true =>
        have hRf : R = false := unhide Hbad (by simp [sayRune, hc])
        have HRf := hide hRf
        rw [hc] at hst
        have Hst := hide hst
        clear hst hRf hc
        go_wp2_with (go_at_call 57; refine (unhide Hst _).mono ?_; rintro e w' ⟨rfl, rfl⟩)
        go_ret
        exact ⟨by rw [unhide HRf]; rfl, hb2⟩
      | false =>
        rw [hc] at hst
        have Hst := hide hst
        clear hst
        by_cases h32 : r < 32
        · have hRf : R = false := unhide Hbad (by simp [sayRune, hc, h32])
          have HRf := hide hRf
          have d1 : decide ((r : Int) < 32) = true := by simp; omega
          clear hRf hc
          go_wp2_with (go_at_call 57; refine (unhide Hst _).mono ?_; rintro e w' ⟨rfl, rfl⟩)
          go_ret
          exact ⟨by rw [unhide HRf]; rfl, hb2⟩
        · have d1 : decide ((r : Int) < 32) = false := by simp; omega
          by_cases h127 : r = 127
          · have hRf : R = false := unhide Hbad (by simp [sayRune, hc, h127])
            have HRf := hide hRf
            have d2 : ((r : Int) == 127) = true := by simp; omega
            clear hRf hc h127
            go_wp2_with (go_at_call 57; refine (unhide Hst _).mono ?_; rintro e w' ⟨rfl, rfl⟩)
            go_ret
            exact ⟨by rw [unhide HRf]; rfl, hb2⟩
          · have d2 : ((r : Int) == 127) = false := by simp; omega
            have hgood : sayRune l (pos, r) = true := by simp [sayRune, hc, h127]; omega
            have Hgood := hide hgood
            clear hgood hc h127
            go_wp2_with (go_at_call 57; refine (unhide Hst _).mono ?_; rintro e w' ⟨rfl, rfl⟩)
            have hdl := unhide Hdl
            refine ⟨⟨pos + wd, f, dn ++ [(pos, r)], by simp [hdl], unhide Hit2, hb2, Hnew, ?_, by omega, by simp; omega⟩, ?_⟩
            · show (dn ++ [(pos, r)]).all (sayRune l) = true
              rw [List.all_append, unhide hN]; simp [unhide Hgood]
            · simp only [World.iterPos, unhide Hit2, hit]; omega
    · have hnx : ∀ ty, (Instr.next (.pointer (some ⟨w.heap.size, 0, none⟩)) true ty).run Try.prog wr = _ := fun ty => Lib.run_next_end_at wr w.heap.size s pos ty hit hp
      have hI' := unhide hI
      rw [itemsFrom_end s fuel pos hp, List.append_nil] at hI'
      have h1 : R = decide (dn.length ≤ 64) := by
        rw [← unhide HR, pSays, hI', unhide hN, Bool.true_and]
      have H1 := hide h1
      clear hI' h1 hsz hN hI
      generalize dn.length = n at *
      cases d2 : decide ((n : Int) ≤ 64)
      all_goals
        go_wp2
        go_ret
        refine ⟨?_, hb⟩
        rw [unhide H1]
        simp only [decide_eq_true_eq, decide_eq_false_iff_not] at d2
        simp
        omega
end Go.Proofs.Ytlanplknendmaaa

namespace Go.Proofs.Ytlanplknendmaaa
open Go.RowKit
set_option linter.unusedSimpArgs false
set_option linter.unusedVariables false

/-- What may be said has at most 256 bytes. -/
theorem pSays_len (l : List UInt8) (h : pSays l = true) : l.length ≤ 256 := by
  have h1 := itemsFrom_four (str l) l.length 0 (by rw [str_size]; omega)
  rw [str_size] at h1
  simp only [pSays, Bool.and_eq_true, decide_eq_true_eq] at h
  have h2 := h.2
  unfold items at h2
  omega
/-- A payload, nothing, or a number. -/
inductive Pl where
  | no | num
  | tr (o : Nat) (a b : List UInt8) (n : Nat)
  | sa (a b : List UInt8)
  | de (o : Nat) (a : List UInt8) (n : Nat)
def trCells (o : Nat) (a b : List UInt8) (n : Nat) : Array Value := #[.int .u32 (o : Int), .string (str a), .string (str b), .int .u64 (n : Int)]
def saCells (a b : List UInt8) : Array Value := #[.string (str a), .string (str b)]
def deCells (o : Nat) (a : List UInt8) (n : Nat) : Array Value := #[.int .u32 (o : Int), .string (str a), .int .u64 (n : Int)]
def Pl.val : Pl → Value
  | .no => .nilIface
  | .num => .iface 3 (.int .i64 7)
  | .tr o a b n => .iface 44 (.agg (trCells o a b n))
  | .sa a b => .iface 51 (.agg (saCells a b))
  | .de o a n => .iface 53 (.agg (deCells o a n))
def Pl.ok : Pl → Prop
  | .tr o _ _ n => o < 4294967296 ∧ n < 18446744073709551616
  | .de o _ n => o < 4294967296 ∧ n < 18446744073709551616
  | _ => True
/-- Its texts have at most so many bytes. -/
def Pl.most (m : Nat) : Pl → Prop
  | .tr _ a b _ => a.length ≤ m ∧ b.length ≤ m
  | .sa a b => a.length ≤ m ∧ b.length ≤ m
  | .de _ a _ => a.length ≤ m
  | _ => True
def Pl.tag : Pl → Nat
  | .tr .. => 1
  | .sa .. => 2
  | .de .. => 3
  | _ => 0
def Pl.right : Pl → Bool
  | .tr _ a b n => if pRight a then (if pRight b then !decide (n = 0) else false) else false
  | .sa a b => if pRight a then pSays b else false
  | .de _ a _ => pRight a
  | _ => false
def Pl.fields : Pl → List UInt8
  | .tr o a b n => pBig o 4 ++ (pText4 a ++ (pText4 b ++ pBig n 8))
  | .sa a b => pText4 a ++ pText4 b
  | .de o a n => pBig o 4 ++ (pText4 a ++ pBig n 8)
  | _ => []
def Pl.bytes (p : Pl) : List UInt8 × Int := if p.tag = 0 then ([], 2) else if p.right then (pBig p.tag 1 ++ p.fields, 0) else ([], 4)

def Rd.tr (r : Rd) : Pl := .tr (r.num 4).1 ((r.num 4).2.text 48).1 (((r.num 4).2.text 48).2.text 48).1 ((((r.num 4).2.text 48).2.text 48).2.num 8).1
def Rd.trR (r : Rd) : Rd := ((((r.num 4).2.text 48).2.text 48).2.num 8).2
def Rd.sa (r : Rd) : Pl := .sa (r.text 48).1 ((r.text 48).2.text 256).1
def Rd.saR (r : Rd) : Rd := ((r.text 48).2.text 256).2
def Rd.de (r : Rd) : Pl := .de (r.num 4).1 ((r.num 4).2.text 48).1 (((r.num 4).2.text 48).2.num 8).1
def Rd.deR (r : Rd) : Rd := (((r.num 4).2.text 48).2.num 8).2
/-- A payload off the front. -/
def Rd.pl (r : Rd) : Pl × Rd :=
  if (r.num 1).1 = 1 then ((r.num 1).2.tr, (r.num 1).2.trR) else
  if (r.num 1).1 = 2 then ((r.num 1).2.sa, (r.num 1).2.saR) else
  if (r.num 1).1 = 3 then ((r.num 1).2.de, (r.num 1).2.deR) else (.no, (r.num 1).2.fail 4)
/-- The payload that bytes are, and what is wrong with them. -/
def pPRead (l : List UInt8) : Pl × Int :=
  if (⟨l, 0⟩ : Rd).pl.2.end' ≠ 0 then (.no, (⟨l, 0⟩ : Rd).pl.2.end') else if (⟨l, 0⟩ : Rd).pl.1.right then ((⟨l, 0⟩ : Rd).pl.1, 0) else (.no, 4)

theorem Rd.num_lt8 (r : Rd) : (r.num 8).1 < 18446744073709551616 := Rd.num_lt r 8
theorem Rd.pl_ok (r : Rd) : r.pl.1.ok := by
  unfold Rd.pl
  split
  · exact ⟨Rd.num_lt _ 4, Rd.num_lt _ 8⟩
  · split
    · trivial
    · split
      · exact ⟨Rd.num_lt _ 4, Rd.num_lt _ 8⟩
      · trivial
theorem Rd.pl_most (r : Rd) : r.pl.1.most r.rest.length := by
  have h1 := r.num_rest 1
  have h2 := (r.num 1).2.num_rest 4
  have h3 := ((r.num 1).2.num 4).2.text_rest 48
  have h4 := (r.num 1).2.text_rest 48
  have l1 := ((r.num 1).2.num 4).2.text_len 48
  have l2 := (((r.num 1).2.num 4).2.text 48).2.text_len 48
  have l3 := (r.num 1).2.text_len 48
  have l4 := ((r.num 1).2.text 48).2.text_len 256
  unfold Rd.pl
  split
  · refine ⟨?_, ?_⟩ <;> omega
  · split
    · refine ⟨?_, ?_⟩ <;> omega
    · split
      · show _ ≤ _
        omega
      · trivial
theorem pPRead_ok (l : List UInt8) : (pPRead l).1.ok ∧ (pPRead l).1.most l.length := by
  unfold pPRead
  split
  · exact ⟨trivial, trivial⟩
  · split
    · exact ⟨Rd.pl_ok _, Rd.pl_most _⟩
    · exact ⟨trivial, trivial⟩
theorem tr_right (o : Nat) (a b : List UInt8) (n : Nat) : (Pl.tr o a b n).right = true ↔ pRight a = true ∧ pRight b = true ∧ n ≠ 0 := by
  simp only [Pl.right]
  cases pRight a <;> cases pRight b <;> simp
theorem sa_right (a b : List UInt8) : (Pl.sa a b).right = true ↔ pRight a = true ∧ pSays b = true := by
  simp only [Pl.right]
  cases pRight a <;> simp
theorem num_back' (n k : Nat) (h : n < 256 ^ k) : (⟨pBig n k, 0⟩ : Rd).num k = (n, ⟨[], 0⟩) := by
  have := num_back n k h []
  rwa [List.append_nil] at this
/-- What is written is read as it was. -/
theorem pl_back (p : Pl) (h : p.ok) (e : p.bytes.2 = 0) : pPRead p.bytes.1 = (p, 0) ∧ p.tag ≠ 0 := by
  have ht : p.tag ≠ 0 := fun h0 => by simp [Pl.bytes, h0] at e
  have hr : p.right = true := by
    cases hr : p.right with
    | true => rfl
    | false => simp [Pl.bytes, ht, hr] at e
  refine ⟨?_, ht⟩
  have eb : p.bytes.1 = pBig p.tag 1 ++ p.fields := by simp [Pl.bytes, ht, hr]
  have e0 : (⟨p.bytes.1, 0⟩ : Rd).num 1 = (p.tag, ⟨p.fields, 0⟩) := by
    rw [eb]
    exact num_back _ 1 (by cases p <;> simp [Pl.tag]) _
  have key : (⟨p.bytes.1, 0⟩ : Rd).pl = (p, ⟨[], 0⟩) := by
    unfold Rd.pl
    rw [e0]
    cases p with
    | no => exact absurd rfl ht
    | num => exact absurd rfl ht
    | tr o a b n =>
      obtain ⟨r1, r2, r3⟩ := (tr_right o a b n).1 hr
      have n1 := pRight_len _ r1
      have n2 := pRight_len _ r2
      have k1 := num_back o 4 h.1 (pText4 a ++ (pText4 b ++ pBig n 8))
      have k2 := text_back' a (pText4 b ++ pBig n 8) 48 (by omega) (by omega)
      have k3 := text_back' b (pBig n 8) 48 (by omega) (by omega)
      have k4 := num_back' n 8 h.2
      simp only [Pl.tag, Pl.fields, Rd.tr, Rd.trR, if_true, k1, k2, k3, k4]
    | sa a b =>
      obtain ⟨r1, r2⟩ := (sa_right a b).1 hr
      have n1 := pRight_len _ r1
      have n2 := pSays_len _ r2
      have k2 := text_back' a (pText4 b) 48 (by omega) (by omega)
      have k3 := text_back' b [] 256 (by omega) (by omega)
      rw [List.append_nil] at k3
      simp only [Pl.tag, Pl.fields, Rd.sa, Rd.saR, if_true, k2, k3]
      rfl
    | de o a n =>
      have n1 := pRight_len a hr
      have k1 := num_back o 4 h.1 (pText4 a ++ pBig n 8)
      have k2 := text_back' a (pBig n 8) 48 (by omega) (by omega)
      have k4 := num_back' n 8 h.2
      simp only [Pl.tag, Pl.fields, Rd.de, Rd.deR, if_true, k1, k2, k4]
      rfl
  unfold pPRead
  rw [key]
  simp [Rd.end', hr]
theorem Rd.pl_read (r : Rd) (he : r.pl.2.end' = 0) (hr : r.pl.1.right = true) : pBig r.pl.1.tag 1 ++ r.pl.1.fields = r.rest ∧ r.pl.1.tag ≠ 0 := by
  obtain ⟨o, z⟩ := Rd.end_ok _ he
  clear he
  by_cases hb : (r.num 1).1 = 1
  · have e : r.pl = ((r.num 1).2.tr, (r.num 1).2.trR) := by unfold Rd.pl; rw [if_pos hb]
    rw [e] at o z hr ⊢
    simp only [Rd.trR, Rd.tr] at o z hr ⊢
    obtain ⟨o3, t4⟩ := Rd.num_ok _ _ o
    obtain ⟨o2, t3⟩ := Rd.text_ok _ _ o3
    obtain ⟨o1, t2⟩ := Rd.text_ok _ _ o2
    obtain ⟨o0, t1⟩ := Rd.num_ok _ _ o1
    obtain ⟨_, t0⟩ := Rd.num_ok _ _ o0
    rw [z, List.append_nil] at t4
    rw [hb] at t0
    refine ⟨?_, by simp [Pl.tag]⟩
    simp only [Pl.tag, Pl.fields]
    rw [← t4, ← t3, ← t2, ← t1, ← t0]
  · by_cases hc : (r.num 1).1 = 2
    · have e : r.pl = ((r.num 1).2.sa, (r.num 1).2.saR) := by unfold Rd.pl; rw [if_neg hb, if_pos hc]
      rw [e] at o z hr ⊢
      simp only [Rd.saR, Rd.sa] at o z hr ⊢
      obtain ⟨o2, t3⟩ := Rd.text_ok _ _ o
      obtain ⟨o1, t2⟩ := Rd.text_ok _ _ o2
      obtain ⟨_, t0⟩ := Rd.num_ok _ _ o1
      rw [z, List.append_nil] at t3
      rw [hc] at t0
      refine ⟨?_, by simp [Pl.tag]⟩
      simp only [Pl.tag, Pl.fields]
      rw [← t3, ← t2, ← t0]
    · by_cases hd : (r.num 1).1 = 3
      · have e : r.pl = ((r.num 1).2.de, (r.num 1).2.deR) := by unfold Rd.pl; rw [if_neg hb, if_neg hc, if_pos hd]
        rw [e] at o z hr ⊢
        simp only [Rd.deR, Rd.de] at o z hr ⊢
        obtain ⟨o3, t4⟩ := Rd.num_ok _ _ o
        obtain ⟨o2, t3⟩ := Rd.text_ok _ _ o3
        obtain ⟨o1, t2⟩ := Rd.num_ok _ _ o2
        obtain ⟨_, t0⟩ := Rd.num_ok _ _ o1
        rw [z, List.append_nil] at t4
        rw [hd] at t0
        refine ⟨?_, by simp [Pl.tag]⟩
        simp only [Pl.tag, Pl.fields]
        rw [← t4, ← t3, ← t2, ← t0]
      · have e : r.pl = (.no, (r.num 1).2.fail 4) := by unfold Rd.pl; rw [if_neg hb, if_neg hc, if_neg hd]
        rw [e] at hr
        cases hr
/-- What is read is written so. -/
theorem pl_read (l : List UInt8) (h : (pPRead l).2 = 0) : (pPRead l).1.bytes = (l, 0) := by
  unfold pPRead at *
  split at h
  · rename_i hn; exact absurd h hn
  · rename_i hn
    have he : (⟨l, 0⟩ : Rd).pl.2.end' = 0 := by
      apply Classical.byContradiction; exact hn
    split at h
    · rename_i hr
      rw [if_neg hn, if_pos hr]
      obtain ⟨a, b⟩ := Rd.pl_read _ he hr
      unfold Pl.bytes
      rw [if_neg b, if_pos hr, a]
    · cases h
end Go.Proofs.Ytlanplknendmaaa

namespace Go.Proofs.Ytlanplknendmaaa
open Go Go.RowKit

theorem mapM_some {α β : Type} (f : α → Option β) (g : α → β) (l : List α) (h : ∀ x ∈ l, f x = some (g x)) : l.mapM f = some (l.map g) := by
  induction l with
  | nil => rfl
  | cons x l ih =>
    rw [List.mapM_cons, h x (by simp), ih (fun y hy => h y (by simp [hy]))]; rfl

/-- The data of an array of integers. -/
theorem keyLits_ints {P : Program} (t e : TypeId) (n : Nat) (k : IntKind) (hu : P.underlying t = some (.array n e)) (he : P.underlying e = some (.int k)) (hce : P.cellsOf e = 1) (hct : P.cellsOf t = n)
    (zs : List Int) (hl : zs.length = n) (hw : ∀ z ∈ zs, (Lit.int k z).wf = true) : ∃ la, P.keyLits 2 t (zs.map (Value.int k)) = some la := by
  unfold Program.keyLits
  simp only [hu]
  rw [if_pos (by simp [hl, hct])]
  rw [mapM_some _ (fun i => [Lit.int k (zs.getD i 0)]) _ (fun i hi => ?_)]
  · exact ⟨_, rfl⟩
  · have hi' : i < zs.length := by rw [hl]; exact List.mem_range.1 hi
    rw [hce, Nat.mul_one, List.drop_eq_getElem_cons (by simpa using hi')]
    unfold Program.keyLits
    simp only [he]
    have hz : (Lit.int k zs[i]).wf = true := hw _ (List.getElem_mem _)
    simp [hz, hi']

theorem equalIn_refl {P : Program} (t : TypeId) (m D : Nat) (hm : m ≤ 10000) (hk : P.keyTypeAt m t = true) (cs : Array Value) (hf : (Value.agg cs).formed P t = true) (la : List Lit) (hla : P.keyLits D t cs.toList = some la) (w : World) :
    (Op.equalIn 10000 t (.agg cs) (.agg cs)).run P w = .ok true w := by
  obtain ⟨r, hr, hiff⟩ := run_equalIn_deep (P := P) (10000 - m) m t hk w D D (.agg cs) (.agg cs) la la hf hf hla hla
  rw [show 10000 - m + m = 10000 by omega] at hr
  obtain rfl : r = true := hiff.2 rfl
  exact hr
/-- A value of such a type equals itself. -/
theorem eql_refl {P : Program} (t : TypeId) (m D : Nat) (hm : m ≤ 10000) (hk : P.keyTypeAt m t = true) (cs : Array Value) (hf : (Value.agg cs).formed P t = true) (la : List Lit) (hla : P.keyLits D t cs.toList = some la) (w : World) :
    (binOp .eql t (.agg cs) (.agg cs)).run P w = .ok (.bool true) w := by
  obtain ⟨r, hr, hiff⟩ := run_equalIn_deep (P := P) (10000 - m) m t hk w D D (.agg cs) (.agg cs) la la hf hf hla hla
  rw [show 10000 - m + m = 10000 by omega] at hr
  obtain rfl : r = true := hiff.2 rfl
  rw [run_eql_struct, hr]; rfl

end Go.Proofs.Ytlanplknendmaaa

namespace Go.Proofs.Ytlanplknendmaaa
open Go.RowKit
set_option linter.unusedSimpArgs false
set_option linter.unusedVariables false

theorem as_hit_tr (v : Value) (x : TypeId) (w : World) : (Instr.typeAssert (.iface 44 v) x 44 true).run Try.prog w = .ok (.tuple #[v, .bool true]) w := by
  simp [Instr.typeAssert, run_underlying Try.underlying44, go_sem]
theorem as_nil_tr (x : TypeId) (w : World) : (Instr.typeAssert .nilIface x 44 true).run Try.prog w = .ok (.tuple #[.agg (trCells 0 [] [] 0), .bool false]) w := by
  simp [Instr.typeAssert, run_underlying Try.underlying44, go_sem]
  rfl
theorem as_miss_tr (t : TypeId) (ht : t ≠ 44) (v : Value) (x : TypeId) (w : World) : (Instr.typeAssert (.iface t v) x 44 true).run Try.prog w = .ok (.tuple #[.agg (trCells 0 [] [] 0), .bool false]) w := by
  simp [Instr.typeAssert, run_underlying Try.underlying44, go_sem, ht]
  rfl
theorem as_hit_sa (v : Value) (x : TypeId) (w : World) : (Instr.typeAssert (.iface 51 v) x 51 true).run Try.prog w = .ok (.tuple #[v, .bool true]) w := by
  simp [Instr.typeAssert, run_underlying Try.underlying51, go_sem]
theorem as_nil_sa (x : TypeId) (w : World) : (Instr.typeAssert .nilIface x 51 true).run Try.prog w = .ok (.tuple #[.agg (saCells [] []), .bool false]) w := by
  simp [Instr.typeAssert, run_underlying Try.underlying51, go_sem]
  rfl
theorem as_miss_sa (t : TypeId) (ht : t ≠ 51) (v : Value) (x : TypeId) (w : World) : (Instr.typeAssert (.iface t v) x 51 true).run Try.prog w = .ok (.tuple #[.agg (saCells [] []), .bool false]) w := by
  simp [Instr.typeAssert, run_underlying Try.underlying51, go_sem, ht]
  rfl
theorem as_hit_de (v : Value) (x : TypeId) (w : World) : (Instr.typeAssert (.iface 53 v) x 53 true).run Try.prog w = .ok (.tuple #[v, .bool true]) w := by
  simp [Instr.typeAssert, run_underlying Try.underlying53, go_sem]
theorem as_nil_de (x : TypeId) (w : World) : (Instr.typeAssert .nilIface x 53 true).run Try.prog w = .ok (.tuple #[.agg (deCells 0 [] 0), .bool false]) w := by
  simp [Instr.typeAssert, run_underlying Try.underlying53, go_sem]
  rfl
theorem as_miss_de (t : TypeId) (ht : t ≠ 53) (v : Value) (x : TypeId) (w : World) : (Instr.typeAssert (.iface t v) x 53 true).run Try.prog w = .ok (.tuple #[.agg (deCells 0 [] 0), .bool false]) w := by
  simp [Instr.typeAssert, run_underlying Try.underlying53, go_sem, ht]
  rfl
def Pl.trC : Pl → Array Value
  | .tr o a b n => trCells o a b n
  | _ => trCells 0 [] [] 0
def Pl.isTr : Pl → Bool
  | .tr .. => true
  | _ => false
def Pl.saC : Pl → Array Value
  | .sa a b => saCells a b
  | _ => saCells [] []
def Pl.isSa : Pl → Bool
  | .sa .. => true
  | _ => false
def Pl.deC : Pl → Array Value
  | .de o a n => deCells o a n
  | _ => deCells 0 [] 0
def Pl.isDe : Pl → Bool
  | .de .. => true
  | _ => false
theorem as_tr (p : Pl) (x : TypeId) (w : World) : (Instr.typeAssert p.val x 44 true).run Try.prog w = .ok (.tuple #[.agg p.trC, .bool p.isTr]) w := by
  cases p with
  | no => exact as_nil_tr x w
  | num => exact as_miss_tr _ (by decide) _ x w
  | tr o a b n => exact as_hit_tr _ x w
  | sa a b => exact as_miss_tr _ (by decide) _ x w
  | de o a n => exact as_miss_tr _ (by decide) _ x w
theorem as_sa (p : Pl) (x : TypeId) (w : World) : (Instr.typeAssert p.val x 51 true).run Try.prog w = .ok (.tuple #[.agg p.saC, .bool p.isSa]) w := by
  cases p with
  | no => exact as_nil_sa x w
  | num => exact as_miss_sa _ (by decide) _ x w
  | tr o a b n => exact as_miss_sa _ (by decide) _ x w
  | sa a b => exact as_hit_sa _ x w
  | de o a n => exact as_miss_sa _ (by decide) _ x w
theorem as_de (p : Pl) (x : TypeId) (w : World) : (Instr.typeAssert p.val x 53 true).run Try.prog w = .ok (.tuple #[.agg p.deC, .bool p.isDe]) w := by
  cases p with
  | no => exact as_nil_de x w
  | num => exact as_miss_de _ (by decide) _ x w
  | tr o a b n => exact as_miss_de _ (by decide) _ x w
  | sa a b => exact as_miss_de _ (by decide) _ x w
  | de o a n => exact as_hit_de _ x w
set_option maxRecDepth 100000 in
theorem tag_calls (p : Pl) (w : World) :
    Calls Try.prog 21 #[p.val] w fun e w' => e = .returned (.int .i64 (p.tag : Int)) ∧ w' = w := by
  have h1 := as_tr p
  have h2 := as_sa p
  have h3 := as_de p
  generalize p.trC = C1 at *
  generalize p.saC = C2 at *
  generalize p.deC = C3 at *
  generalize hV : p.val = V at *
  cases p
  · simp only [Pl.isTr, Pl.isSa, Pl.isDe, Pl.tag] at *
    clear hV
    go_enter Try.func21, Try.ntmps21
    go_wp2
    go_ret
    exact ⟨rfl, rfl⟩
  · simp only [Pl.isTr, Pl.isSa, Pl.isDe, Pl.tag] at *
    clear hV
    go_enter Try.func21, Try.ntmps21
    go_wp2
    go_ret
    exact ⟨rfl, rfl⟩
  · simp only [Pl.isTr, Pl.isSa, Pl.isDe, Pl.tag] at *
    clear hV
    go_enter Try.func21, Try.ntmps21
    go_wp2
    go_ret
    exact ⟨rfl, rfl⟩
  · simp only [Pl.isTr, Pl.isSa, Pl.isDe, Pl.tag] at *
    clear hV
    go_enter Try.func21, Try.ntmps21
    go_wp2
    go_ret
    exact ⟨rfl, rfl⟩
  · simp only [Pl.isTr, Pl.isSa, Pl.isDe, Pl.tag] at *
    clear hV
    go_enter Try.func21, Try.ntmps21
    go_wp2
    go_ret
    exact ⟨rfl, rfl⟩
end Go.Proofs.Ytlanplknendmaaa

namespace Go.Proofs.Ytlanplknendmaaa
open Go.RowKit
set_option linter.unusedSimpArgs false
set_option linter.unusedVariables false

theorem wlong_calls (n : Nat) (w : World) :
    Calls Try.prog 45 #[.int .u64 (n : Int)] w fun e w' => e = .returned (.string (str (pBig n 8))) ∧ Below w.heap.size w w' := by
  have hc := number_calls n 8 (by decide) (by decide) w
  generalize pBig n 8 = B at *
  have Hc := hide hc
  clear hc
  go_enter Try.func45, Try.ntmps45
  go_wp2_with fail
  refine (unhide Hc).mono ?_
  rintro e w' ⟨rfl, hb⟩
  go_wp2
  go_ret
  exact ⟨rfl, hb⟩
set_option maxRecDepth 100000 in
theorem mayBe_calls (p : Pl) (hp : p.most 4611686018427387904) (w : World) :
    Calls Try.prog 22 #[p.val] w fun e w' => e = .returned (.bool p.right) ∧ Below w.heap.size w w' := by
  have h1 := as_tr p
  have h2 := as_sa p
  have h3 := as_de p
  generalize hV : p.val = V at *
  have hr0 := Below.refl w.heap.size w
  cases p with
  | no =>
    simp only [Pl.isTr, Pl.isSa, Pl.isDe, Pl.right, Pl.trC, Pl.saC, Pl.deC] at *
    generalize trCells _ _ _ _ = C1 at *
    generalize saCells _ _ = C2 at *
    generalize deCells _ _ _ = C3 at *
    clear hV
    go_enter Try.func22, Try.ntmps22
    go_wp2
    go_ret
    exact ⟨rfl, hr0⟩
  | num =>
    simp only [Pl.isTr, Pl.isSa, Pl.isDe, Pl.right, Pl.trC, Pl.saC, Pl.deC] at *
    generalize trCells _ _ _ _ = C1 at *
    generalize saCells _ _ = C2 at *
    generalize deCells _ _ _ = C3 at *
    clear hV
    go_enter Try.func22, Try.ntmps22
    go_wp2
    go_ret
    exact ⟨rfl, hr0⟩
  | tr o a b n =>
    simp only [Pl.isTr, Pl.isSa, Pl.isDe, Pl.right, Pl.trC, Pl.saC, Pl.deC] at *
    have k1 := hide fun W => right_calls a hp.1 W
    have k2 := hide fun W => right_calls b hp.2 W
    generalize pRight a = x at *
    generalize pRight b = y at *
    have hn : (((n : Int) != 0) = !decide (n = 0)) := by
      by_cases h : n = 0
      · subst h; rfl
      · have : ((n : Int) != 0) = true := by simp; omega
        rw [this]; simp [h]
    generalize saCells _ _ = C2 at *
    generalize deCells _ _ _ = C3 at *
    clear hV hp
    unfold trCells at h1
    have hb0 := (Below.refl w.heap.size w).alloc (Nat.le_refl _) (.cells #[.int .u32 (o : Int), .string (str a), .string (str b), .int .u64 (n : Int)] 44)
    go_enter Try.func22, Try.ntmps22
    go_wp2_with fail
    refine (unhide k1 _).mono ?_
    rintro e w1 ⟨rfl, b1⟩
    obtain ⟨c1, -, z1, -⟩ := alloc_kept b1
    have hb1 := hb0.trans (b1.mono (by simp))
    have d1 := c1 2
    have d2 := c1 3
    simp only [List.getElem?_toArray, List.getElem?_cons_succ, List.getElem?_cons_zero] at d1 d2
    clear c1 b1 hb0 k1
    cases x with
    | false =>
      go_wp2_with fail
      go_ret
      exact ⟨rfl, hb1⟩
    | true =>
      go_wp2_with fail
      refine (unhide k2 _).mono ?_
      rintro e w2 ⟨rfl, b2⟩
      have d3 := ((bcell b2).1 w.heap.size 3 z1).trans d2
      have hb2 := hb1.trans (b2.mono (Nat.le_of_lt z1))
      clear d1 d2
      cases y with
      | false =>
        go_wp2_with fail
        go_ret
        exact ⟨rfl, hb2⟩
      | true =>
        go_wp2_with fail
        go_ret
        exact ⟨rfl, hb2⟩
  | sa a b =>
    simp only [Pl.isTr, Pl.isSa, Pl.isDe, Pl.right, Pl.trC, Pl.saC, Pl.deC] at *
    have k1 := hide fun W => right_calls a hp.1 W
    have k2 := hide fun W => says_calls b hp.2 W
    generalize pRight a = x at *
    generalize pSays b = y at *
    generalize trCells _ _ _ _ = C2 at *
    generalize deCells _ _ _ = C3 at *
    clear hV hp
    unfold saCells at h2
    have hb0 := (Below.refl w.heap.size w).alloc (Nat.le_refl _) (.cells #[.string (str a), .string (str b)] 51)
    go_enter Try.func22, Try.ntmps22
    go_wp2_with fail
    refine (unhide k1 _).mono ?_
    rintro e w1 ⟨rfl, b1⟩
    obtain ⟨c1, -, z1, -⟩ := alloc_kept b1
    have hb1 := hb0.trans (b1.mono (by simp))
    have d1 := c1 1
    simp only [List.getElem?_toArray, List.getElem?_cons_succ, List.getElem?_cons_zero] at d1
    clear c1 b1 hb0 k1
    cases x with
    | false =>
      go_wp2_with fail
      go_ret
      exact ⟨rfl, hb1⟩
    | true =>
      go_wp2_with fail
      refine (unhide k2 _).mono ?_
      rintro e w2 ⟨rfl, b2⟩
      have hb2 := hb1.trans (b2.mono (Nat.le_of_lt z1))
      go_wp2_with fail
      go_ret
      exact ⟨rfl, hb2⟩
  | de o a n =>
    simp only [Pl.isTr, Pl.isSa, Pl.isDe, Pl.right, Pl.trC, Pl.saC, Pl.deC] at *
    have k1 := hide fun W => right_calls a hp W
    generalize pRight a = x at *
    generalize trCells _ _ _ _ = C2 at *
    generalize saCells _ _ = C3 at *
    clear hV hp
    unfold deCells at h3
    have hb0 := (Below.refl w.heap.size w).alloc (Nat.le_refl _) (.cells #[.int .u32 (o : Int), .string (str a), .int .u64 (n : Int)] 53)
    go_enter Try.func22, Try.ntmps22
    go_wp2_with fail
    refine (unhide k1 _).mono ?_
    rintro e w1 ⟨rfl, b1⟩
    have hb1 := hb0.trans (b1.mono (by simp))
    go_wp2_with fail
    go_ret
    exact ⟨rfl, hb1⟩
end Go.Proofs.Ytlanplknendmaaa

namespace Go.Proofs.Ytlanplknendmaaa
open Go.RowKit
set_option linter.unusedSimpArgs false
set_option linter.unusedVariables false

set_option maxHeartbeats 2000000 in
set_option maxRecDepth 100000 in
theorem fields_calls (p : Pl) (ok : p.ok) (hp : p.most 4000000000) (w : World) :
    Calls Try.prog 24 #[p.val] w fun e w' => e = .returned (.string (str p.fields)) ∧ Below w.heap.size w w' := by
  have h1 := as_tr p
  have h2 := as_sa p
  have h3 := as_de p
  generalize hV : p.val = V at *
  have hr0 := Below.refl w.heap.size w
  cases p with
  | no =>
    simp only [Pl.isTr, Pl.isSa, Pl.isDe, Pl.fields, Pl.trC, Pl.saC, Pl.deC] at *
    generalize trCells _ _ _ _ = C1 at *
    generalize saCells _ _ = C2 at *
    generalize deCells _ _ _ = C3 at *
    clear hV
    go_enter Try.func24, Try.ntmps24
    go_wp2
    go_ret
    exact ⟨rfl, hr0⟩
  | num =>
    simp only [Pl.isTr, Pl.isSa, Pl.isDe, Pl.fields, Pl.trC, Pl.saC, Pl.deC] at *
    generalize trCells _ _ _ _ = C1 at *
    generalize saCells _ _ = C2 at *
    generalize deCells _ _ _ = C3 at *
    clear hV
    go_enter Try.func24, Try.ntmps24
    go_wp2
    go_ret
    exact ⟨rfl, hr0⟩
  | tr o a b n =>
    simp only [Pl.isTr, Pl.isSa, Pl.isDe, Pl.fields, Pl.trC, Pl.saC, Pl.deC] at *
    have ok := ok
    have hp := hp
    have ok1 := ok.1
    have ok2 := ok.2
    have hp1 := hp.1
    have hp2 := hp.2
    have L1 := pBig_length o 4
    have w1 := fun w => wword_calls o ok1 w
    have L2 := pText4_length a
    have w2 := fun w => wtext_calls a (by omega) w
    have L3 := pText4_length b
    have w3 := fun w => wtext_calls b (by omega) w
    have L4 := pBig_length n 8
    have w4 := fun w => wlong_calls n w
    generalize pBig o 4 = P1 at *
    generalize pText4 a = P2 at *
    generalize pText4 b = P3 at *
    generalize pBig n 8 = P4 at *
    have a1 := append_str P1 P2
    have n1 : ¬ 9223372036854775807 < P1.length + P2.length := by omega
    have a2 : str (P1 ++ P2) ++ str P3 = str (P1 ++ (P2 ++ P3)) := by rw [append_str]; simp
    have n2 : ¬ 9223372036854775807 < P1.length + P2.length + P3.length := by omega
    have a3 : str (P1 ++ (P2 ++ P3)) ++ str P4 = str (P1 ++ (P2 ++ (P3 ++ P4))) := by rw [append_str]; simp
    have n3 : ¬ 9223372036854775807 < P1.length + (P2.length + P3.length) + P4.length := by omega
    have hb0 := (Below.refl w.heap.size w).alloc (Nat.le_refl _) (.cells #[.int .u32 (o : Int), .string (str a), .string (str b), .int .u64 (n : Int)] 44)
    have q0 := al1 w (.cells #[.int .u32 (o : Int), .string (str a), .string (str b), .int .u64 (n : Int)] 44)
    have HX0 := hide (rfl : w.alloc (.cells #[.int .u32 (o : Int), .string (str a), .string (str b), .int .u64 (n : Int)] 44) = w.alloc (.cells #[.int .u32 (o : Int), .string (str a), .string (str b), .int .u64 (n : Int)] 44))
    generalize hX : w.alloc (.cells #[.int .u32 (o : Int), .string (str a), .string (str b), .int .u64 (n : Int)] 44) = X at *
    clear HX0
    have hzX : w.heap.size < X.heap.size := (Array.getElem?_eq_some_iff.1 q0).1
    have cg : ∀ j v, (#[.int .u32 (o : Int), .string (str a), .string (str b), .int .u64 (n : Int)] : Array Value)[j]? = some v → ∀ d os, (Sort.grow (redrawn X d) os).cell? ⟨w.heap.size, j, none⟩ = some v := fun j v hv d os => by
      rw [(below_regrown X d os).cell (p := ⟨w.heap.size, j, none⟩) hzX]; exact (sig_cell q0).1 j v hv
    have c1 : ∀ d os, (Sort.grow (redrawn X d) os).cell? ⟨w.heap.size, 0, none⟩ = some (.int .u32 (o : Int)) := cg 0 _ rfl
    have c2 : ∀ d os, (Sort.grow (redrawn X d) os).cell? ⟨w.heap.size, 1, none⟩ = some (.string (str a)) := cg 1 _ rfl
    have c3 : ∀ d os, (Sort.grow (redrawn X d) os).cell? ⟨w.heap.size, 2, none⟩ = some (.string (str b)) := cg 2 _ rfl
    have c4 : ∀ d os, (Sort.grow (redrawn X d) os).cell? ⟨w.heap.size, 3, none⟩ = some (.int .u64 (n : Int)) := cg 3 _ rfl
    have k1 := hide fun d os => Calls.regrown_of (w := X) (d := d) (os := os) (w1 _)
    have k2 := hide fun d os => Calls.regrown_of (w := X) (d := d) (os := os) (w2 _)
    have k3 := hide fun d os => Calls.regrown_of (w := X) (d := d) (os := os) (w3 _)
    have k4 := hide fun d os => Calls.regrown_of (w := X) (d := d) (os := os) (w4 _)
    have HX := hide hX
    generalize saCells _ _ = D0 at *
    generalize deCells _ _ _ = D1 at *
    unfold trCells at h1
    clear cg hX hV q0 hp w1 w2 w3 w4 L1 L2 L3 L4 ok ok1 ok2 hp1 hp2
    go_enter Try.func24, Try.ntmps24
    go_wp2_with fail
    rw [unhide HX]
    refine wp_region_below mixed (by kernel_rfl) ?_
    quiet_step (fail)
    quiet_step (fail)
    quiet_step (exact unhide k1 _ _)
    quiet_step (fail)
    quiet_step (fail)
    quiet_step (exact unhide k2 _ _)
    quiet_step (fail)
    quiet_step (fail)
    quiet_step (fail)
    quiet_step (exact unhide k3 _ _)
    quiet_step (fail)
    quiet_step (fail)
    quiet_step (fail)
    quiet_step (exact unhide k4 _ _)
    repeat (quiet_step (fail))
    refine wpQuiet_nil ?_
    intro w3 hb3
    go_wp2
    go_ret
    exact ⟨rfl, hb0.trans (hb3.mono hb0.size)⟩
  | sa a b =>
    simp only [Pl.isTr, Pl.isSa, Pl.isDe, Pl.fields, Pl.trC, Pl.saC, Pl.deC] at *
    have hp := hp
    have hp1 := hp.1
    have hp2 := hp.2
    have L1 := pText4_length a
    have w1 := fun w => wtext_calls a (by omega) w
    have L2 := pText4_length b
    have w2 := fun w => wtext_calls b (by omega) w
    generalize pText4 a = P1 at *
    generalize pText4 b = P2 at *
    have a1 := append_str P1 P2
    have n1 : ¬ 9223372036854775807 < P1.length + P2.length := by omega
    have hb0 := (Below.refl w.heap.size w).alloc (Nat.le_refl _) (.cells #[.string (str a), .string (str b)] 51)
    have q0 := al1 w (.cells #[.string (str a), .string (str b)] 51)
    have HX0 := hide (rfl : w.alloc (.cells #[.string (str a), .string (str b)] 51) = w.alloc (.cells #[.string (str a), .string (str b)] 51))
    generalize hX : w.alloc (.cells #[.string (str a), .string (str b)] 51) = X at *
    clear HX0
    have hzX : w.heap.size < X.heap.size := (Array.getElem?_eq_some_iff.1 q0).1
    have cg : ∀ j v, (#[.string (str a), .string (str b)] : Array Value)[j]? = some v → ∀ d os, (Sort.grow (redrawn X d) os).cell? ⟨w.heap.size, j, none⟩ = some v := fun j v hv d os => by
      rw [(below_regrown X d os).cell (p := ⟨w.heap.size, j, none⟩) hzX]; exact (sig_cell q0).1 j v hv
    have c1 : ∀ d os, (Sort.grow (redrawn X d) os).cell? ⟨w.heap.size, 0, none⟩ = some (.string (str a)) := cg 0 _ rfl
    have c2 : ∀ d os, (Sort.grow (redrawn X d) os).cell? ⟨w.heap.size, 1, none⟩ = some (.string (str b)) := cg 1 _ rfl
    have k1 := hide fun d os => Calls.regrown_of (w := X) (d := d) (os := os) (w1 _)
    have k2 := hide fun d os => Calls.regrown_of (w := X) (d := d) (os := os) (w2 _)
    have HX := hide hX
    generalize trCells _ _ _ _ = D0 at *
    generalize deCells _ _ _ = D1 at *
    unfold saCells at h2
    clear cg hX hV q0 hp w1 w2 L1 L2 ok hp1 hp2
    go_enter Try.func24, Try.ntmps24
    go_wp2_with fail
    rw [unhide HX]
    refine wp_region_below mixed (by kernel_rfl) ?_
    quiet_step (fail)
    quiet_step (fail)
    quiet_step (exact unhide k1 _ _)
    quiet_step (fail)
    quiet_step (fail)
    quiet_step (exact unhide k2 _ _)
    repeat (quiet_step (fail))
    refine wpQuiet_nil ?_
    intro w3 hb3
    go_wp2
    go_ret
    exact ⟨rfl, hb0.trans (hb3.mono hb0.size)⟩
  | de o a n =>
    simp only [Pl.isTr, Pl.isSa, Pl.isDe, Pl.fields, Pl.trC, Pl.saC, Pl.deC] at *
    have ok := ok
    have hp := hp
    have ok1 := ok.1
    have ok2 := ok.2
    have hp1 : a.length ≤ 4000000000 := hp
    have L1 := pBig_length o 4
    have w1 := fun w => wword_calls o ok1 w
    have L2 := pText4_length a
    have w2 := fun w => wtext_calls a (by omega) w
    have L3 := pBig_length n 8
    have w3 := fun w => wlong_calls n w
    generalize pBig o 4 = P1 at *
    generalize pText4 a = P2 at *
    generalize pBig n 8 = P3 at *
    have a1 := append_str P1 P2
    have n1 : ¬ 9223372036854775807 < P1.length + P2.length := by omega
    have a2 : str (P1 ++ P2) ++ str P3 = str (P1 ++ (P2 ++ P3)) := by rw [append_str]; simp
    have n2 : ¬ 9223372036854775807 < P1.length + P2.length + P3.length := by omega
    have hb0 := (Below.refl w.heap.size w).alloc (Nat.le_refl _) (.cells #[.int .u32 (o : Int), .string (str a), .int .u64 (n : Int)] 53)
    have q0 := al1 w (.cells #[.int .u32 (o : Int), .string (str a), .int .u64 (n : Int)] 53)
    have HX0 := hide (rfl : w.alloc (.cells #[.int .u32 (o : Int), .string (str a), .int .u64 (n : Int)] 53) = w.alloc (.cells #[.int .u32 (o : Int), .string (str a), .int .u64 (n : Int)] 53))
    generalize hX : w.alloc (.cells #[.int .u32 (o : Int), .string (str a), .int .u64 (n : Int)] 53) = X at *
    clear HX0
    have hzX : w.heap.size < X.heap.size := (Array.getElem?_eq_some_iff.1 q0).1
    have cg : ∀ j v, (#[.int .u32 (o : Int), .string (str a), .int .u64 (n : Int)] : Array Value)[j]? = some v → ∀ d os, (Sort.grow (redrawn X d) os).cell? ⟨w.heap.size, j, none⟩ = some v := fun j v hv d os => by
      rw [(below_regrown X d os).cell (p := ⟨w.heap.size, j, none⟩) hzX]; exact (sig_cell q0).1 j v hv
    have c1 : ∀ d os, (Sort.grow (redrawn X d) os).cell? ⟨w.heap.size, 0, none⟩ = some (.int .u32 (o : Int)) := cg 0 _ rfl
    have c2 : ∀ d os, (Sort.grow (redrawn X d) os).cell? ⟨w.heap.size, 1, none⟩ = some (.string (str a)) := cg 1 _ rfl
    have c3 : ∀ d os, (Sort.grow (redrawn X d) os).cell? ⟨w.heap.size, 2, none⟩ = some (.int .u64 (n : Int)) := cg 2 _ rfl
    have k1 := hide fun d os => Calls.regrown_of (w := X) (d := d) (os := os) (w1 _)
    have k2 := hide fun d os => Calls.regrown_of (w := X) (d := d) (os := os) (w2 _)
    have k3 := hide fun d os => Calls.regrown_of (w := X) (d := d) (os := os) (w3 _)
    have HX := hide hX
    generalize trCells _ _ _ _ = D0 at *
    generalize saCells _ _ = D1 at *
    unfold deCells at h3
    clear cg hX hV q0 hp w1 w2 w3 L1 L2 L3 ok ok1 ok2 hp1
    go_enter Try.func24, Try.ntmps24
    go_wp2_with fail
    rw [unhide HX]
    refine wp_region_below mixed (by kernel_rfl) ?_
    quiet_step (fail)
    quiet_step (fail)
    quiet_step (exact unhide k1 _ _)
    quiet_step (fail)
    quiet_step (fail)
    quiet_step (exact unhide k2 _ _)
    quiet_step (fail)
    quiet_step (fail)
    quiet_step (fail)
    quiet_step (exact unhide k3 _ _)
    repeat (quiet_step (fail))
    refine wpQuiet_nil ?_
    intro w3 hb3
    go_wp2
    go_ret
    exact ⟨rfl, hb0.trans (hb3.mono hb0.size)⟩
theorem fields_len (p : Pl) (hp : p.most 4000000000) : p.fields.length ≤ 9000000000 := by
  cases p with
  | no => simp [Pl.fields]
  | num => simp [Pl.fields]
  | tr o a b n =>
    have h1 := hp.1
    have h2 := hp.2
    simp only [Pl.fields, List.length_append, pBig_length, pText4_length]
    omega
  | sa a b =>
    have h1 := hp.1
    have h2 := hp.2
    simp only [Pl.fields, List.length_append, pBig_length, pText4_length]
    omega
  | de o a n =>
    have h1 : a.length ≤ 4000000000 := hp
    simp only [Pl.fields, List.length_append, pBig_length, pText4_length]
    omega
theorem Pl.most_mono {m n : Nat} (h : m ≤ n) (p : Pl) (hp : p.most m) : p.most n := by
  cases p with
  | no => trivial
  | num => trivial
  | tr o a b n => exact ⟨Nat.le_trans hp.1 h, Nat.le_trans hp.2 h⟩
  | sa a b => exact ⟨Nat.le_trans hp.1 h, Nat.le_trans hp.2 h⟩
  | de o a n => exact Nat.le_trans (show a.length ≤ m from hp) h
set_option maxHeartbeats 1000000 in
set_option maxRecDepth 100000 in
theorem pbytes_calls (p : Pl) (ok : p.ok) (hp : p.most 4000000000) (w : World) :
    Calls Try.prog 10 #[p.val] w fun e w' => e = .returned (.tuple #[.string (str p.bytes.1), .int .i64 p.bytes.2]) ∧ Below w.heap.size w w' := by
  have k1 := hide fun W => tag_calls p W
  have k2 := hide fun W => mayBe_calls p (p.most_mono (by decide) hp) W
  have ht : p.tag < 256 := by cases p <;> simp [Pl.tag]
  have k3 := hide fun W => wbyte_calls p.tag ht W
  have k4 := hide fun W => fields_calls p ok hp W
  have L1 := pBig_length p.tag 1
  have L2 := fields_len p hp
  obtain ⟨R, hR⟩ : ∃ R, p.bytes = R := ⟨_, rfl⟩
  rw [hR]
  unfold Pl.bytes at hR
  have hr0 := Below.refl w.heap.size w
  generalize p.val = V at *
  generalize p.tag = t at *
  generalize p.right = r at *
  generalize pBig t 1 = B at *
  generalize p.fields = F at *
  have e1 := append_str B F
  have n1 : ¬ 9223372036854775807 < B.length + F.length := by omega
  clear L1 L2 ok hp
  have HR := hide hR
  clear hR
  by_cases h0 : t = 0
  · have hR := unhide HR
    rw [if_pos h0] at hR
    subst hR
    have e0 : ((t : Int) == 0) = true := by simp; omega
    clear h0
    go_enter Try.func10, Try.ntmps10
    go_wp2_with fail
    refine (unhide k1 _).mono ?_
    rintro e w1 ⟨rfl, rfl⟩
    go_wp2_with fail
    go_ret2
    exact ⟨rfl, hr0⟩
  · have hR := unhide HR
    rw [if_neg h0] at hR
    have e0 : ((t : Int) == 0) = false := by simp; omega
    clear h0
    cases r with
    | false =>
      rw [if_neg (by simp)] at hR
      subst hR
      go_enter Try.func10, Try.ntmps10
      go_wp2_with fail
      refine (unhide k1 _).mono ?_
      rintro e w1 ⟨rfl, rfl⟩
      go_wp2_with fail
      refine (unhide k2 _).mono ?_
      rintro e w2 ⟨rfl, b2⟩
      go_wp2_with fail
      go_ret2
      exact ⟨rfl, b2⟩
    | true =>
      rw [if_pos rfl] at hR
      subst hR
      go_enter Try.func10, Try.ntmps10
      go_wp2_with fail
      refine (unhide k1 _).mono ?_
      rintro e w1 ⟨rfl, rfl⟩
      go_wp2_with fail
      refine (unhide k2 _).mono ?_
      rintro e w2 ⟨rfl, b2⟩
      go_wp2_with fail
      refine (unhide k3 _).mono ?_
      rintro e w3 ⟨rfl, b3⟩
      have b3' := b2.trans (b3.mono b2.size)
      go_wp2_with fail
      refine (unhide k4 _).mono ?_
      rintro e w4 ⟨rfl, b4⟩
      go_wp2_with fail
      go_ret2
      exact ⟨rfl, b3'.trans (b4.mono b3'.size)⟩
end Go.Proofs.Ytlanplknendmaaa

namespace Go.Proofs.Ytlanplknendmaaa
open Go.RowKit
set_option linter.unusedSimpArgs false
set_option linter.unusedVariables false

set_option maxHeartbeats 2000000 in
set_option maxRecDepth 100000 in
theorem ptake_calls (g : Nat) (r : Rd) (hl : r.rest.length ≤ 4611686018427387904) (w : World) (h : RdAt w g r) :
    Calls Try.prog 28 #[.pointer (some ⟨g, 0, none⟩)] w fun e w' => e = .returned r.pl.1.val ∧ RdAt w' g r.pl.2 ∧ Turned g w w' := by
  have k0 := hide (rbyte_calls g r hl w h)
  have m0 := r.num_rest 1
  have hb := Rd.num_lt r 1
  obtain ⟨P, hP⟩ : ∃ P, r.pl = P := ⟨_, rfl⟩
  rw [hP]
  unfold Rd.pl at hP
  generalize (r.num 1).1 = t at *
  obtain ⟨r1, hr1⟩ : ∃ x, (r.num 1).2 = x := ⟨_, rfl⟩
  rw [hr1] at k0 m0 hP
  have hl1 : r1.rest.length ≤ 4611686018427387904 := by omega
  clear hr1 m0 hl h
  have HP := hide hP
  clear hP
  by_cases h1 : t = 1
  · subst h1
    have hP := unhide HP
    rw [if_pos rfl] at hP
    subst hP
    unfold Rd.tr Rd.trR Pl.val trCells
    have m1 := r1.num_rest 4
    have m2 := (r1.num 4).2.text_rest 48
    have m3 := ((r1.num 4).2.text 48).2.text_rest 48
    have k1 := hide fun W (h : RdAt W g r1) => rword_calls _ r1 hl1 W h
    have k2 := hide fun W (h : RdAt W g (r1.num 4).2) => rdtext_calls _ (r1.num 4).2 (by omega) 48 W h
    have k3 := hide fun W (h : RdAt W g ((r1.num 4).2.text 48).2) => rdtext_calls _ ((r1.num 4).2.text 48).2 (by omega) 48 W h
    have k4 := hide fun W (h : RdAt W g (((r1.num 4).2.text 48).2.text 48).2) => rlong_calls _ (((r1.num 4).2.text 48).2.text 48).2 (by omega) W h
    generalize (((r1.num 4).2.text 48).2.text 48).2.num 8 = x4 at *
    generalize ((r1.num 4).2.text 48).2.text 48 = x3 at *
    generalize (r1.num 4).2.text 48 = x2 at *
    generalize r1.num 4 = x1 at *
    obtain ⟨a1, s1⟩ := x1
    obtain ⟨a2, s2⟩ := x2
    obtain ⟨a3, s3⟩ := x3
    obtain ⟨a4, s4⟩ := x4
    simp only at *
    clear m1 m2 m3 hl1 HP hb
    go_enter Try.func28, Try.ntmps28
    go_wp2_with fail
    refine (unhide k0).mono ?_
    rintro e w0 ⟨rfl, R0, T0⟩
    go_wp2_with fail
    refine (unhide k1 _ R0).mono ?_
    rintro e w1 ⟨rfl, R1, T1⟩
    go_wp2_with fail
    refine (unhide k2 _ R1).mono ?_
    rintro e w2 ⟨rfl, R2, T2⟩
    go_wp2_with fail
    refine (unhide k3 _ R2).mono ?_
    rintro e w3 ⟨rfl, R3, T3⟩
    go_wp2_with fail
    refine (unhide k4 _ R3).mono ?_
    rintro e w4 ⟨rfl, R4, T4⟩
    have T := (((T0.trans T1).trans T2).trans T3).trans T4
    clear T0 T1 T2 T3 T4 R0 R1 R2 R3
    go_wp2_with fail
    go_ret
    exact ⟨rfl, R4, T⟩
  · by_cases h2 : t = 2
    · subst h2
      have hP := unhide HP
      rw [if_neg h1, if_pos rfl] at hP
      subst hP
      unfold Rd.sa Rd.saR Pl.val saCells
      have m1 := r1.text_rest 48
      have k1 := hide fun W (h : RdAt W g r1) => rdtext_calls _ r1 hl1 48 W h
      have k2 := hide fun W (h : RdAt W g (r1.text 48).2) => rdtext_calls _ (r1.text 48).2 (by omega) 256 W h
      generalize (r1.text 48).2.text 256 = x2 at *
      generalize r1.text 48 = x1 at *
      obtain ⟨a1, s1⟩ := x1
      obtain ⟨a2, s2⟩ := x2
      simp only at *
      clear m1 hl1 HP hb h1
      go_enter Try.func28, Try.ntmps28
      go_wp2_with fail
      refine (unhide k0).mono ?_
      rintro e w0 ⟨rfl, R0, T0⟩
      go_wp2_with fail
      refine (unhide k1 _ R0).mono ?_
      rintro e w1 ⟨rfl, R1, T1⟩
      go_wp2_with fail
      refine (unhide k2 _ R1).mono ?_
      rintro e w2 ⟨rfl, R2, T2⟩
      have T := (T0.trans T1).trans T2
      clear T0 T1 T2 R0 R1
      go_wp2_with fail
      go_ret
      exact ⟨rfl, R2, T⟩
    · by_cases h3 : t = 3
      · subst h3
        have hP := unhide HP
        rw [if_neg h1, if_neg h2, if_pos rfl] at hP
        subst hP
        unfold Rd.de Rd.deR Pl.val deCells
        have m1 := r1.num_rest 4
        have m2 := (r1.num 4).2.text_rest 48
        have k1 := hide fun W (h : RdAt W g r1) => rword_calls _ r1 hl1 W h
        have k2 := hide fun W (h : RdAt W g (r1.num 4).2) => rdtext_calls _ (r1.num 4).2 (by omega) 48 W h
        have k3 := hide fun W (h : RdAt W g ((r1.num 4).2.text 48).2) => rlong_calls _ ((r1.num 4).2.text 48).2 (by omega) W h
        generalize ((r1.num 4).2.text 48).2.num 8 = x3 at *
        generalize (r1.num 4).2.text 48 = x2 at *
        generalize r1.num 4 = x1 at *
        obtain ⟨a1, s1⟩ := x1
        obtain ⟨a2, s2⟩ := x2
        obtain ⟨a3, s3⟩ := x3
        simp only at *
        clear m1 m2 hl1 HP hb h1 h2
        go_enter Try.func28, Try.ntmps28
        go_wp2_with fail
        refine (unhide k0).mono ?_
        rintro e w0 ⟨rfl, R0, T0⟩
        go_wp2_with fail
        refine (unhide k1 _ R0).mono ?_
        rintro e w1 ⟨rfl, R1, T1⟩
        go_wp2_with fail
        refine (unhide k2 _ R1).mono ?_
        rintro e w2 ⟨rfl, R2, T2⟩
        go_wp2_with fail
        refine (unhide k3 _ R2).mono ?_
        rintro e w3 ⟨rfl, R3, T3⟩
        have T := ((T0.trans T1).trans T2).trans T3
        clear T0 T1 T2 T3 R0 R1 R2
        go_wp2_with fail
        go_ret
        exact ⟨rfl, R3, T⟩
      · have hP := unhide HP
        rw [if_neg h1, if_neg h2, if_neg h3] at hP
        subst hP
        unfold Pl.val
        have e1 : ((t : Int) == 1) = false := by simp; omega
        have e2 : ((t : Int) == 2) = false := by simp; omega
        have e3 : ((t : Int) == 3) = false := by simp; omega
        have k1 := hide fun W (h : RdAt W g r1) => fail_calls g r1 4 W h
        simp only
        generalize r1.fail 4 = s1 at *
        clear HP h1 h2 h3 hb hl1
        go_enter Try.func28, Try.ntmps28
        go_wp2_with fail
        refine (unhide k0).mono ?_
        rintro e w0 ⟨rfl, R0, T0⟩
        go_wp2_with fail
        refine (unhide k1 _ R0).mono ?_
        rintro e w1 ⟨rfl, R1, T1⟩
        have T := T0.trans T1
        go_wp2_with fail
        go_ret
        exact ⟨rfl, R1, T⟩
end Go.Proofs.Ytlanplknendmaaa

namespace Go.Proofs.Ytlanplknendmaaa
open Go Go.RowKit

theorem wpList_load_row_gd {P : Program} {ops : Array Oper} {rest : List Oper} {o : Oper} {a : Act} {w : World} {Q : Exit → Act → World → Prop} (hw : Region.wanted o (yielded ops a.tmps) = true) (ty : TypeId) (x : Operand) (ho : o.op = .load ty x)
    (g : Nat) (hx : a.eval x = .pointer (some ⟨g, 0, none⟩)) (t : TypeId) (cs : Array Value) (fr : Nat × Nat) (d : TypeDesc) (hg : w.heap[g]? = some (.cells cs t fr))
    (hu : P.underlying ty = some d) (hd : (match d with | .struct _ | .array _ _ => true | _ => false) = true) (hi : (P.info? ty).map (·.size) = some cs.size)
    (h : wpList P ops Q rest (a.put o.dst (.agg cs)) w) : wpList P ops Q (o :: rest) a w :=
  wpList_step fun K hK => by
    rw [if_pos hw]
    exact wp_load_row ty x ho g hx t cs fr d hg hu hd hi (hK _ _ h)
end Go.Proofs.Ytlanplknendmaaa

namespace Go.Proofs.Ytlanplknendmaaa
open Go.RowKit
set_option linter.unusedSimpArgs false
set_option linter.unusedVariables false

set_option maxRecDepth 100000 in
theorem pover_calls (l : List UInt8) (w : World) :
    Calls Try.prog 27 #[.string (str l)] w fun e w' => e = .returned (.pointer (some ⟨w.heap.size, 0, none⟩)) ∧ w' = w.alloc (.cells (⟨l, 0⟩ : Rd).cells 77) := by
  unfold Rd.cells
  simp only
  go_enter Try.func27, Try.ntmps27
  go_wp2
  go_ret
  exact ⟨rfl, rfl⟩
set_option maxHeartbeats 1000000 in
set_option maxRecDepth 100000 in
theorem pread_calls (l : List UInt8) (hl : l.length ≤ 4611686018427387904) (w : World) :
    Calls Try.prog 12 #[.string (str l)] w fun e w' => e = .returned (.tuple #[(pPRead l).1.val, .int .i64 (pPRead l).2]) ∧ Below w.heap.size w w' := by
  obtain ⟨r0, h0⟩ : ∃ r, (⟨l, 0⟩ : Rd) = r := ⟨_, rfl⟩
  have hl0 : r0.rest.length ≤ 4611686018427387904 := by rw [← h0]; exact hl
  have ko := pover_calls l
  unfold pPRead
  rw [h0] at ko ⊢
  have k1 := hide fun W (h : RdAt W w.heap.size r0) => ptake_calls _ r0 hl0 W h
  have k2 := hide fun W (h : RdAt W w.heap.size r0.pl.2) => rdend_calls _ r0.pl.2 W h
  have k3 := hide fun W => mayBe_calls r0.pl.1 (r0.pl.1.most_mono hl0 r0.pl_most) W
  have hb0 := (Below.refl w.heap.size w).alloc (Nat.le_refl _) (.cells r0.cells 77)
  have q0 : RdAt (w.alloc (.cells r0.cells 77)) w.heap.size r0 := al1 w _
  generalize r0.pl = P at *
  obtain ⟨p, r1⟩ := P
  simp only at *
  generalize r1.end' = E at *
  generalize p.right = R at *
  obtain ⟨Z, hZ⟩ : ∃ Z, (if E ≠ 0 then (Pl.no, E) else if R = true then (p, 0) else (Pl.no, 4)) = Z := ⟨_, rfl⟩
  rw [hZ]
  have HZ := hide hZ
  have Ko := hide ko
  clear ko hZ h0 hl0 hl
  go_enter Try.func12, Try.ntmps12
  go_wp2_with fail
  refine (unhide Ko _).mono ?_
  rintro e w0 ⟨rfl, h0⟩
  rw [← h0] at hb0 q0
  clear h0 Ko
  go_wp2_with fail
  refine (unhide k1 _ q0).mono ?_
  rintro e w1 ⟨rfl, R1, T1⟩
  have hb1 := T1.under hb0 (Nat.le_refl _)
  clear hb0 q0 T1 k1
  go_wp2_with fail
  refine (unhide k2 _ R1).mono ?_
  rintro e w2 ⟨rfl, rfl⟩
  clear R1 k2
  by_cases hE : E = 0
  · have hE' : (E != 0) = false := by simp [hE]
    have hc : ¬ E ≠ 0 := fun h => h hE
    have hA := unhide HZ
    rw [if_neg hc] at hA
    have HB := hide hA
    clear hE hc hA HZ
    go_wp2_with fail
    refine (unhide k3 _).mono ?_
    rintro e w3 ⟨rfl, b3⟩
    have hb3 := hb1.trans (b3.mono hb1.size)
    cases R with
    | false =>
      have hA := unhide HB
      rw [if_neg (by simp)] at hA
      subst hA
      go_wp2_with fail
      go_ret2
      exact ⟨rfl, hb3⟩
    | true =>
      have hA := unhide HB
      rw [if_pos rfl] at hA
      subst hA
      go_wp2_with fail
      go_ret2
      exact ⟨rfl, hb3⟩
  · have hE' : (E != 0) = true := by simp [hE]
    have hA := unhide HZ
    rw [if_pos hE] at hA
    subst hA
    clear hE
    go_wp2_with fail
    go_ret2
    exact ⟨rfl, hb1⟩
/-- Are both payloads, of one kind, with the same fields? -/
def pPSame : Pl → Pl → Bool
  | .tr o a b n, .tr o' a' b' n' => if o = o' then if a = a' then if b = b' then decide (n = n') else false else false else false
  | .sa a b, .sa a' b' => if a = a' then decide (b = b') else false
  | .de o a n, .de o' a' n' => if o = o' then if a = a' then decide (n = n') else false else false
  | _, _ => false
theorem pPSame_self (p : Pl) (h : p.tag ≠ 0) : pPSame p p = true := by
  cases p <;> simp_all [pPSame, Pl.tag]
theorem toList_eq (l m : List UInt8) : ((str l).toList = (str m).toList) = (l = m) := by rw [ByteArray.toList_eq, ByteArray.toList_eq, str_toList, str_toList]
set_option maxRecDepth 100000 in
theorem tr_eql (o : Nat) (a b : List UInt8) (n o' : Nat) (a' b' : List UInt8) (n' : Nat) (w : World) : (binOp .eql 44 (.agg #[.int .u32 (o : Int), .string (str a), .string (str b), .int .u64 (n : Int)]) (.agg #[.int .u32 (o' : Int), .string (str a'), .string (str b'), .int .u64 (n' : Int)])).run Try.prog w = .ok (.bool (pPSame (.tr o a b n) (.tr o' a' b' n'))) w := by
  unfold pPSame
  have s := toList_eq
  by_cases h1 : o = o'
  · subst h1
    by_cases h4 : n = n'
    · subst h4
      go_simp
      by_cases h2 : a = a' <;> by_cases h3 : b = b' <;> simp [h2, h3]
    · have e4 : ((n : Int) == (n' : Int)) = false := by simp; omega
      go_simp
  · have e1 : ((o : Int) == (o' : Int)) = false := by simp; omega
    go_simp
set_option maxRecDepth 100000 in
theorem sa_eql (a b a' b' : List UInt8) (w : World) : (binOp .eql 51 (.agg #[.string (str a), .string (str b)]) (.agg #[.string (str a'), .string (str b')])).run Try.prog w = .ok (.bool (pPSame (.sa a b) (.sa a' b'))) w := by
  unfold pPSame
  have s := toList_eq
  go_simp
  by_cases h2 : a = a' <;> by_cases h3 : b = b' <;> simp [h2, h3]
set_option maxRecDepth 100000 in
theorem de_eql (o : Nat) (a : List UInt8) (n o' : Nat) (a' : List UInt8) (n' : Nat) (w : World) : (binOp .eql 53 (.agg #[.int .u32 (o : Int), .string (str a), .int .u64 (n : Int)]) (.agg #[.int .u32 (o' : Int), .string (str a'), .int .u64 (n' : Int)])).run Try.prog w = .ok (.bool (pPSame (.de o a n) (.de o' a' n'))) w := by
  unfold pPSame
  have s := toList_eq
  by_cases h1 : o = o'
  · subst h1
    by_cases h4 : n = n'
    · subst h4
      go_simp
      by_cases h2 : a = a' <;> simp [h2]
    · have e4 : ((n : Int) == (n' : Int)) = false := by simp; omega
      go_simp
  · have e1 : ((o : Int) == (o' : Int)) = false := by simp; omega
    go_simp
set_option maxHeartbeats 2000000 in
set_option maxRecDepth 100000 in
theorem psame_calls (p q : Pl) (w : World) :
    Calls Try.prog 39 #[p.val, q.val] w fun e w' => e = .returned (.bool (pPSame p q)) ∧ Below w.heap.size w w' := by
  have h1 := as_tr p
  have h2 := as_sa p
  have h3 := as_de p
  have g1 := as_tr q
  have g2 := as_sa q
  have g3 := as_de q
  have hr0 := Below.refl w.heap.size w
  have hb2 := fun A B => bel2 w A B
  generalize hV : p.val = V at *
  generalize hU : q.val = U at *
  cases p with
  | no =>
    simp only [Pl.isTr, Pl.isSa, Pl.isDe, pPSame, Pl.trC, Pl.saC, Pl.deC] at h1 h2 h3 ⊢
    generalize trCells _ _ _ _ = C1 at *
    generalize saCells _ _ = C2 at *
    generalize deCells _ _ _ = C3 at *
    clear hV hU g1 g2 g3
    go_enter Try.func39, Try.ntmps39
    go_wp2
    go_ret
    exact ⟨rfl, hr0⟩
  | num =>
    simp only [Pl.isTr, Pl.isSa, Pl.isDe, pPSame, Pl.trC, Pl.saC, Pl.deC] at h1 h2 h3 ⊢
    generalize trCells _ _ _ _ = C1 at *
    generalize saCells _ _ = C2 at *
    generalize deCells _ _ _ = C3 at *
    clear hV hU g1 g2 g3
    go_enter Try.func39, Try.ntmps39
    go_wp2
    go_ret
    exact ⟨rfl, hr0⟩
  | tr o a b n =>
    simp only [Pl.isTr, Pl.isSa, Pl.isDe, Pl.trC, Pl.saC, Pl.deC] at h1 h2 h3 ⊢
    cases q with
    | no  =>
      simp only [Pl.isTr, Pl.isSa, Pl.isDe, Pl.trC, Pl.saC, Pl.deC] at g1 g2 g3 ⊢
      simp only [pPSame]
      unfold trCells at h1 g1
      clear g2
      generalize saCells _ _ = Dsa at h2
      clear g3
      generalize deCells _ _ _ = Dde at h3
      clear hV hU
      go_enter Try.func39, Try.ntmps39
      go_wp2
      go_ret
      exact ⟨rfl, hb2 _ _⟩
    | num  =>
      simp only [Pl.isTr, Pl.isSa, Pl.isDe, Pl.trC, Pl.saC, Pl.deC] at g1 g2 g3 ⊢
      simp only [pPSame]
      unfold trCells at h1 g1
      clear g2
      generalize saCells _ _ = Dsa at h2
      clear g3
      generalize deCells _ _ _ = Dde at h3
      clear hV hU
      go_enter Try.func39, Try.ntmps39
      go_wp2
      go_ret
      exact ⟨rfl, hb2 _ _⟩
    | tr o' a' b' n' =>
      simp only [Pl.isTr, Pl.isSa, Pl.isDe, Pl.trC, Pl.saC, Pl.deC] at g1 g2 g3 ⊢
      have he := tr_eql o a b n o' a' b' n'
      generalize pPSame _ _ = R at *
      unfold trCells at h1 g1
      clear g2
      generalize saCells _ _ = Dsa at h2
      clear g3
      generalize deCells _ _ _ = Dde at h3
      clear hV hU
      go_enter Try.func39, Try.ntmps39
      go_wp2
      go_ret
      exact ⟨rfl, hb2 _ _⟩
    | sa a' b' =>
      simp only [Pl.isTr, Pl.isSa, Pl.isDe, Pl.trC, Pl.saC, Pl.deC] at g1 g2 g3 ⊢
      simp only [pPSame]
      unfold trCells at h1 g1
      clear g2
      generalize saCells _ _ = Dsa at h2
      clear g3
      generalize deCells _ _ _ = Dde at h3
      clear hV hU
      go_enter Try.func39, Try.ntmps39
      go_wp2
      go_ret
      exact ⟨rfl, hb2 _ _⟩
    | de o' a' n' =>
      simp only [Pl.isTr, Pl.isSa, Pl.isDe, Pl.trC, Pl.saC, Pl.deC] at g1 g2 g3 ⊢
      simp only [pPSame]
      unfold trCells at h1 g1
      clear g2
      generalize saCells _ _ = Dsa at h2
      clear g3
      generalize deCells _ _ _ = Dde at h3
      clear hV hU
      go_enter Try.func39, Try.ntmps39
      go_wp2
      go_ret
      exact ⟨rfl, hb2 _ _⟩
  | sa a b =>
    simp only [Pl.isTr, Pl.isSa, Pl.isDe, Pl.trC, Pl.saC, Pl.deC] at h1 h2 h3 ⊢
    cases q with
    | no  =>
      simp only [Pl.isTr, Pl.isSa, Pl.isDe, Pl.trC, Pl.saC, Pl.deC] at g1 g2 g3 ⊢
      simp only [pPSame]
      unfold saCells at h2 g2
      clear g1
      generalize trCells _ _ _ _ = Dtr at h1
      clear g3
      generalize deCells _ _ _ = Dde at h3
      clear hV hU
      go_enter Try.func39, Try.ntmps39
      go_wp2
      go_ret
      exact ⟨rfl, hb2 _ _⟩
    | num  =>
      simp only [Pl.isTr, Pl.isSa, Pl.isDe, Pl.trC, Pl.saC, Pl.deC] at g1 g2 g3 ⊢
      simp only [pPSame]
      unfold saCells at h2 g2
      clear g1
      generalize trCells _ _ _ _ = Dtr at h1
      clear g3
      generalize deCells _ _ _ = Dde at h3
      clear hV hU
      go_enter Try.func39, Try.ntmps39
      go_wp2
      go_ret
      exact ⟨rfl, hb2 _ _⟩
    | tr o' a' b' n' =>
      simp only [Pl.isTr, Pl.isSa, Pl.isDe, Pl.trC, Pl.saC, Pl.deC] at g1 g2 g3 ⊢
      simp only [pPSame]
      unfold saCells at h2 g2
      clear g1
      generalize trCells _ _ _ _ = Dtr at h1
      clear g3
      generalize deCells _ _ _ = Dde at h3
      clear hV hU
      go_enter Try.func39, Try.ntmps39
      go_wp2
      go_ret
      exact ⟨rfl, hb2 _ _⟩
    | sa a' b' =>
      simp only [Pl.isTr, Pl.isSa, Pl.isDe, Pl.trC, Pl.saC, Pl.deC] at g1 g2 g3 ⊢
      have he := sa_eql a b a' b'
      generalize pPSame _ _ = R at *
      unfold saCells at h2 g2
      clear g1
      generalize trCells _ _ _ _ = Dtr at h1
      clear g3
      generalize deCells _ _ _ = Dde at h3
      clear hV hU
      go_enter Try.func39, Try.ntmps39
      go_wp2
      go_ret
      exact ⟨rfl, hb2 _ _⟩
    | de o' a' n' =>
      simp only [Pl.isTr, Pl.isSa, Pl.isDe, Pl.trC, Pl.saC, Pl.deC] at g1 g2 g3 ⊢
      simp only [pPSame]
      unfold saCells at h2 g2
      clear g1
      generalize trCells _ _ _ _ = Dtr at h1
      clear g3
      generalize deCells _ _ _ = Dde at h3
      clear hV hU
      go_enter Try.func39, Try.ntmps39
      go_wp2
      go_ret
      exact ⟨rfl, hb2 _ _⟩
  | de o a n =>
    simp only [Pl.isTr, Pl.isSa, Pl.isDe, Pl.trC, Pl.saC, Pl.deC] at h1 h2 h3 ⊢
    cases q with
    | no  =>
      simp only [Pl.isTr, Pl.isSa, Pl.isDe, Pl.trC, Pl.saC, Pl.deC] at g1 g2 g3 ⊢
      simp only [pPSame]
      unfold deCells at h3 g3
      clear g1
      generalize trCells _ _ _ _ = Dtr at h1
      clear g2
      generalize saCells _ _ = Dsa at h2
      clear hV hU
      go_enter Try.func39, Try.ntmps39
      go_wp2
      go_ret
      exact ⟨rfl, hb2 _ _⟩
    | num  =>
      simp only [Pl.isTr, Pl.isSa, Pl.isDe, Pl.trC, Pl.saC, Pl.deC] at g1 g2 g3 ⊢
      simp only [pPSame]
      unfold deCells at h3 g3
      clear g1
      generalize trCells _ _ _ _ = Dtr at h1
      clear g2
      generalize saCells _ _ = Dsa at h2
      clear hV hU
      go_enter Try.func39, Try.ntmps39
      go_wp2
      go_ret
      exact ⟨rfl, hb2 _ _⟩
    | tr o' a' b' n' =>
      simp only [Pl.isTr, Pl.isSa, Pl.isDe, Pl.trC, Pl.saC, Pl.deC] at g1 g2 g3 ⊢
      simp only [pPSame]
      unfold deCells at h3 g3
      clear g1
      generalize trCells _ _ _ _ = Dtr at h1
      clear g2
      generalize saCells _ _ = Dsa at h2
      clear hV hU
      go_enter Try.func39, Try.ntmps39
      go_wp2
      go_ret
      exact ⟨rfl, hb2 _ _⟩
    | sa a' b' =>
      simp only [Pl.isTr, Pl.isSa, Pl.isDe, Pl.trC, Pl.saC, Pl.deC] at g1 g2 g3 ⊢
      simp only [pPSame]
      unfold deCells at h3 g3
      clear g1
      generalize trCells _ _ _ _ = Dtr at h1
      clear g2
      generalize saCells _ _ = Dsa at h2
      clear hV hU
      go_enter Try.func39, Try.ntmps39
      go_wp2
      go_ret
      exact ⟨rfl, hb2 _ _⟩
    | de o' a' n' =>
      simp only [Pl.isTr, Pl.isSa, Pl.isDe, Pl.trC, Pl.saC, Pl.deC] at g1 g2 g3 ⊢
      have he := de_eql o a n o' a' n'
      generalize pPSame _ _ = R at *
      unfold deCells at h3 g3
      clear g1
      generalize trCells _ _ _ _ = Dtr at h1
      clear g2
      generalize saCells _ _ = Dsa at h2
      clear hV hU
      go_enter Try.func39, Try.ntmps39
      go_wp2
      go_ret
      exact ⟨rfl, hb2 _ _⟩
end Go.Proofs.Ytlanplknendmaaa

namespace Go.Proofs.Ytlanplknendmaaa
open Go.RowKit
set_option linter.unusedSimpArgs false
set_option linter.unusedVariables false

theorem bare_hit (v : Value) (x : TypeId) (w : World) : (Instr.typeAssert (.iface 44 v) x 44 false).run Try.prog w = .ok v w := by
  simp [Instr.typeAssert, run_underlying Try.underlying44, go_sem]
noncomputable def tae (x : TypeId) (v : Value) : Obj := .cells #[typeHandle Try.prog x, v, typeHandle Try.prog 44, strVal ""] 98
theorem bare_nil (x : TypeId) (w : World) : (Instr.typeAssert .nilIface x 44 false).run Try.prog w = .halt (.panic (.iface 15 (.pointer (some ⟨w.heap.size, 0, none⟩)))) (w.alloc (tae x (.pointer none))) := by
  simp [Instr.typeAssert, run_underlying Try.underlying44, runtimePanic, goPanic, elemOf, run_underlying Try.underlying15, go_sem, tae]
theorem bare_miss (t : TypeId) (ht : t ≠ 44) (v : Value) (x : TypeId) (w : World) : (Instr.typeAssert (.iface t v) x 44 false).run Try.prog w = .halt (.panic (.iface 15 (.pointer (some ⟨w.heap.size, 0, none⟩)))) (w.alloc (tae x (typeHandle Try.prog t))) := by
  simp [Instr.typeAssert, run_underlying Try.underlying44, runtimePanic, goPanic, elemOf, run_underlying Try.underlying15, go_sem, tae, ht]
theorem bare_bad (p : Pl) (h : p.isTr = false) : ∃ o : TypeId → Obj, ∀ (x : TypeId) (w : World), (Instr.typeAssert p.val x 44 false).run Try.prog w = .halt (.panic (.iface 15 (.pointer (some ⟨w.heap.size, 0, none⟩)))) (w.alloc (o x)) := by
  cases p with
  | no => exact ⟨_, fun x w => bare_nil x w⟩
  | num => exact ⟨_, fun x w => bare_miss _ (by decide) _ x w⟩
  | tr o a b n => cases h
  | sa a b => exact ⟨_, fun x w => bare_miss _ (by decide) _ x w⟩
  | de o a n => exact ⟨_, fun x w => bare_miss _ (by decide) _ x w⟩
set_option maxRecDepth 100000 in
theorem mustT_bad (p : Pl) (h : p.isTr = false) (w : World) :
    Calls Try.prog 38 #[p.val] w fun e w' => (∃ pv, e = .panicked [{ v := .iface 15 pv, recovered := false }]) ∧ Below w.heap.size w w' := by
  obtain ⟨o, ho⟩ := bare_bad p h
  generalize p.val = V at *
  go_enter Try.func38, Try.ntmps38
  go_wp2
  exact ⟨rfl, ⟨_, rfl⟩, bel2 w _ _⟩
set_option maxRecDepth 100000 in
theorem must_bad (p : Pl) (h : p.isTr = false) (w : World) :
    Calls Try.prog 19 #[p.val] w fun e w' => (∃ pv, e = .panicked [{ v := .iface 15 pv, recovered := false }]) ∧ Below w.heap.size w w' := by
  have k := hide fun W => mustT_bad p h W
  generalize p.val = V at *
  have hb0 := (Below.refl w.heap.size w).alloc (Nat.le_refl _) (.cells #[.int .u32 0, .string (str []), .string (str []), .int .u64 0] 44)
  go_enter Try.func19, Try.ntmps19
  go_wp2_with fail
  refine (unhide k _).mono ?_
  rintro e w1 ⟨⟨pv, rfl⟩, b1⟩
  exact ⟨rfl, ⟨_, rfl⟩, hb0.trans (b1.mono (by simp))⟩
set_option maxRecDepth 100000 in
theorem mustT_good (o : Nat) (a b : List UInt8) (n : Nat) (w : World) :
    Calls Try.prog 38 #[(Pl.tr o a b n).val] w fun e w' => e = .returned (.agg (trCells o a b n)) ∧ Below w.heap.size w w' := by
  have ho := bare_hit (.agg (trCells o a b n))
  unfold Pl.val
  unfold trCells at *
  go_enter Try.func38, Try.ntmps38
  go_wp2
  exact bodyPost_ret (results_cell_row rfl _ _ w.heap.size _ _ _ _ rfl (al1 w _) Try.underlying44 rfl (by kernel_rfl)) rfl ⟨rfl, (Below.refl _ w).alloc (Nat.le_refl _) _⟩
set_option maxRecDepth 100000 in
theorem catch_panicking (p : Addr) (u : TypeId) (pv : Value) (older : List PanicEntry) (w : World) (hc : w.cell? p = some (.bool false)) (hz : w.frozen? p = false) :
    CallsD Try.prog 37 #[.pointer (some p)] (.panicking ({ v := .iface u pv, recovered := false } :: older)) w fun e u' w' =>
      e = .returned (.tuple #[]) ∧ u' = .panicking ({ v := .iface u pv, recovered := true } :: older) ∧ w' = w.setCell p (.bool true) := by
  refine callsD_of_wpS Try.func37 rfl fun c₀ cs hu => ?_
  apply wpS_region
  simp [wpOpsS, go_sem, recoverD, hu, Try.ntmps37, Exit.thenS, hc, hz, bodyPostS, results, Try.results37]
set_option maxRecDepth 100000 in
theorem catch_idle (p : Addr) (w : World) (hc : w.cell? p = some (.bool false)) (hz : w.frozen? p = false) :
    CallsD Try.prog 37 #[.pointer (some p)] .returning w fun e u' w' => e = .returned (.tuple #[]) ∧ u' = .returning ∧ w' = w.setCell p (.bool false) := by
  refine callsD_of_wpS Try.func37 rfl fun c₀ cs hu => ?_
  apply wpS_region
  simp [wpOpsS, go_sem, recoverD, hu, Try.ntmps37, Exit.thenS, hc, hz, bodyPostS, results, Try.results37]
  cases c₀
  simp_all
set_option maxRecDepth 100000 in
theorem panics_bad (p : Pl) (h : p.isTr = false) (w : World) :
    Calls Try.prog 18 #[p.val] w fun e w' => e = .returned (.bool true) ∧ Below w.heap.size w w' := by
  have hmf : ∀ (fn : Fn) (first cap : Array Value) (w : World), (Instr.makeFunc fn first cap).run Try.prog w = .ok (.func fn first cap) w := fun _ _ _ _ => rfl
  have k := hide fun W => must_bad p h W
  generalize p.val = V at *
  go_enter_defers Try.func18, Try.ntmps18
  go_wp2_with fail
  refine (unhide k _).mono ?_
  rintro e w1 ⟨⟨pv, rfl⟩, b1⟩
  obtain ⟨c1, f1, z1, -⟩ := alloc_kept b1
  have hb1 := ((Below.refl w.heap.size w).alloc (Nat.le_refl _) (.cells #[.bool false] 4)).trans (b1.mono (by simp))
  have c0 := c1 0
  have f0 := f1 0
  simp only [List.getElem?_toArray, List.getElem?_cons_zero] at c0
  refine leaves_cons (f := 37) (args := #[.pointer (some ⟨w.heap.size, 0, none⟩)]) (by simp) (by simp [go_sem]) ?_
  refine (catch_panicking ⟨w.heap.size, 0, none⟩ 15 pv [] _ c0 f0).mono ?_
  rintro e u' w'' ⟨rfl, rfl, rfl⟩
  have hb2 := hb1.setCell (p := ⟨w.heap.size, 0, none⟩) (Nat.le_refl _) (.bool true)
  simp [Leaves, settle, results, Try.results18, go_sem, c0]
  exact hb2
set_option maxRecDepth 100000 in
theorem must_good (o : Nat) (a b : List UInt8) (n : Nat) (w : World) :
    Calls Try.prog 19 #[(Pl.tr o a b n).val] w fun e w' => e = .returned (.agg (trCells o a b n)) ∧ Below w.heap.size w w' := by
  have k := hide fun W => mustT_good o a b n W
  have hb0 := (Below.refl w.heap.size w).alloc (Nat.le_refl _) (.cells (trCells 0 [] [] 0) 44)
  have q0 := al1 w (.cells (trCells 0 [] [] 0) 44)
  have z0 : w.heap.size < (w.alloc (.cells (trCells 0 [] [] 0) 44)).heap.size := by simp
  have hi : (Try.prog.info? 44).map (·.size) = some (trCells o a b n).size := (show (Try.prog.info? 44).map (·.size) = some 4 by kernel_rfl)
  have hsz : Hid ((trCells o a b n).size = (trCells 0 [] [] 0).size) := rfl
  have ho : (trCells o a b n).all (·.oneCell') = true := by simp [trCells, Value.oneCell']
  generalize (Pl.tr o a b n).val = V at *
  generalize trCells o a b n = C at *
  go_enter Try.func19, Try.ntmps19
  go_wp2_with fail
  refine (unhide k _).mono ?_
  rintro e w1 ⟨rfl, b1⟩
  have q1 := Below.at b1 z0 q0
  have hb1 := hb0.trans (b1.mono hb0.size)
  go_wp2_with (refine wpList_store_row rfl 44 (.tmp 2) (.tmp 4) rfl w.heap.size C rfl rfl 44 _ q1 hi (unhide hsz).symm ho ?_)
  exact bodyPost_ret (results_cell_row rfl _ _ w.heap.size _ _ _ _ rfl (setRow_heap _ _ _ _ _ _ q1) Try.underlying44 rfl hi) rfl ⟨rfl, below_setRow hb1 (Nat.le_refl _) _⟩
set_option maxRecDepth 100000 in
theorem panics_good (o : Nat) (a b : List UInt8) (n : Nat) (w : World) :
    Calls Try.prog 18 #[(Pl.tr o a b n).val] w fun e w' => e = .returned (.bool false) ∧ Below w.heap.size w w' := by
  have hmf : ∀ (fn : Fn) (first cap : Array Value) (w : World), (Instr.makeFunc fn first cap).run Try.prog w = .ok (.func fn first cap) w := fun _ _ _ _ => rfl
  have k := hide fun W => must_good o a b n W
  generalize (Pl.tr o a b n).val = V at *
  generalize trCells o a b n = C at *
  go_enter_defers Try.func18, Try.ntmps18
  go_wp2_with fail
  refine (unhide k _).mono ?_
  rintro e w1 ⟨rfl, b1⟩
  obtain ⟨c1, f1, z1, -⟩ := alloc_kept b1
  have hb1 := ((Below.refl w.heap.size w).alloc (Nat.le_refl _) (.cells #[.bool false] 4)).trans (b1.mono (by simp))
  have c0 := c1 0
  have f0 := f1 0
  simp only [List.getElem?_toArray, List.getElem?_cons_zero] at c0
  have hb2 := hb1.setCell (p := ⟨w.heap.size, 0, none⟩) (Nat.le_refl _) (.bool false)
  go_wp2_with fail
  refine leaves_cons (f := 37) (args := #[.pointer (some ⟨w.heap.size, 0, none⟩)]) (by simp) (by simp [go_sem]) ?_
  refine (catch_idle ⟨w.heap.size, 0, none⟩ _ (World.cell?_setCell_same _ _ _ c0) (by simpa using f0)).mono ?_
  rintro e u' w'' ⟨rfl, rfl, rfl⟩
  have hb3 := hb2.setCell (p := ⟨w.heap.size, 0, none⟩) (Nat.le_refl _) (.bool false)
  simp [Leaves, settle, results, Try.results18, go_sem, c0]
  exact hb3
end Go.Proofs.Ytlanplknendmaaa
