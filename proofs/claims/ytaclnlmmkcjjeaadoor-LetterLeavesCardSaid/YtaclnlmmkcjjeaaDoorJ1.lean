/-
  WHAT THE SMALL FUNCTIONS OF name RETURN: one contract each.
-/
/-
  WHAT name's isStray AND Runes RETURN; a text as the list of what a range over it hands out.
-/
/-
  WHAT name's Right AND Says RETURN.
-/
/-
  LETTERS, PLAIN: their bytes, the letter that bytes are, and back.
-/
/-
  EQUALITY OF ARRAYS AND STRUCTS BY VALUE, OF A VALUE WITH ITSELF. Over whatever program.
-/
/-
  WHAT package letter's Right, written, Bytes, Same AND Read RETURN.
-/
/-
  WHAT package letter's written AND Bytes RETURN.
-/
/-
  WHAT package letter's Read AND Same RETURN.
-/
/-
  A WHOLE ROW LOADED WHERE A GUARD LETS IT. Over whatever program.
-/
/-
  WHAT package letter's Same RETURNS.
-/
/-
  THE LAYER's awake AND light, OF LETTERS.
-/
/-
  WHAT THE SMALL FUNCTIONS OF sha AND OF ITS REFERENCE RETURN: one contract each.
-/
/-
  THE WORDS THAT A BLOCK IS DRAWN OUT TO, AS LISTS. Plain definitions and lemmas. No program is named here.
-/
/-
  WHAT sha.wordAt AND sha.schedule RETURN.
-/
/-
  WHAT A BLOCK DOES TO THE EIGHT WORDS. Plain definitions and lemmas.
-/
/-
  WHAT sha.Block RETURNS.
-/
import Derived.Test.YtaclnlmmkcjjeaaDoorProg
import Derived.Test.YtaclnlmmkcjjeaaDoorJ0
import Derived.WalkKit
import Derived.Shelf.Strings.Prefix
import Derived.Lib.OthersKept
import Derived.Laws.RangeAny
import Derived.DeepKeys
import Derived.Laws.StructEq
import Derived.Deep.QuietTactic
import Derived.BigQuiet
import Derived.WalkSpells
import Derived.WalkLawsBesides
import Derived.Laws.Rows
import Derived.StillTailTactics
import Derived.Laws.CopyOwn
namespace Go.Proofs.YtaclnlmmkcjjeaaDoor
open Go.RowKit
set_option linter.unusedSimpArgs false
set_option linter.unusedVariables false

def pSmall (r : Nat) : Bool := (decide (97 ≤ r) && decide (r ≤ 122)) || (decide (945 ≤ r) && decide (r ≤ 969))
def pDigit (r : Nat) : Bool := decide (48 ≤ r) && decide (r ≤ 57)
def pCapital (r : Nat) : Bool := (decide (65 ≤ r) && decide (r ≤ 90)) || ((decide (913 ≤ r) && decide (r ≤ 937)) && (r != 930))

theorem isDigit_calls (r : Nat) (w : World) :
    Calls Tryd.prog 47 #[.int .i32 (r : Int)] w fun e w' => e = .returned (.bool (pDigit r)) ∧ w' = w := by
  by_cases h1 : 48 ≤ r
  · have d1 : decide ((48 : Int) ≤ (r : Int)) = true := by simp; omega
    by_cases h2 : r ≤ 57
    · have d2 : decide ((r : Int) ≤ 57) = true := by simp; omega
      have hp : pDigit r = true := by simp [pDigit]; omega
      rw [hp]; clear hp
      go_enter Tryd.func47, Tryd.ntmps47
      go_wp2
      go_ret
      exact ⟨rfl, rfl⟩
    · have d2 : decide ((r : Int) ≤ 57) = false := by simp; omega
      have hp : pDigit r = false := by simp [pDigit]; omega
      rw [hp]; clear hp
      go_enter Tryd.func47, Tryd.ntmps47
      go_wp2
      go_ret
      exact ⟨rfl, rfl⟩
  · have d1 : decide ((48 : Int) ≤ (r : Int)) = false := by simp; omega
    have hp : pDigit r = false := by simp [pDigit]; omega
    rw [hp]; clear hp
    go_enter Tryd.func47, Tryd.ntmps47
    go_wp2
    go_ret
    exact ⟨rfl, rfl⟩

theorem isSmall_calls (r : Nat) (w : World) :
    Calls Tryd.prog 46 #[.int .i32 (r : Int)] w fun e w' => e = .returned (.bool (pSmall r)) ∧ w' = w := by
  cases d1 : decide ((97 : Int) ≤ (r : Int)) <;> cases d2 : decide ((r : Int) ≤ 122) <;> cases d3 : decide ((945 : Int) ≤ (r : Int)) <;> cases d4 : decide ((r : Int) ≤ 969)
  all_goals
    generalize hp : pSmall r = p
    have Hp := hide hp
    clear hp
    go_enter Tryd.func46, Tryd.ntmps46
    go_wp2
    go_ret
    refine ⟨?_, rfl⟩
    rw [← unhide Hp]
    simp only [decide_eq_true_eq, decide_eq_false_iff_not] at d1 d2 d3 d4
    simp [pSmall]
    omega

end Go.Proofs.YtaclnlmmkcjjeaaDoor

namespace Go.Proofs
open Go.Shelf
namespace YtaclnlmmkcjjeaaDoor
open Go.RowKit
set_option linter.unusedSimpArgs false
set_option linter.unusedVariables false

/-- Is it a stray, what a range hands out there? -/
def pStray (l : List UInt8) (k r : Nat) : Bool := (r == 65533) && !(Lib.hasPrefix (l.drop k) [239, 191, 189])

/-- What a range hands out from a place on: places and runes. -/
def itemsFrom (s : ByteArray) : Nat → Nat → List (Nat × Nat)
  | 0, _ => []
  | f + 1, pos => if pos < s.size then (pos, (Utf8.decode s pos).1) :: itemsFrom s f (pos + (Utf8.decode s pos).2) else []
def items (l : List UInt8) : List (Nat × Nat) := itemsFrom (str l) l.length 0
theorem width_pos (s : ByteArray) (pos : Nat) (h : pos < s.size) : 1 ≤ (Utf8.decode s pos).2 := by
  by_cases ha : (s[pos]'h).toNat < 128
  · rw [decode_ascii s pos h ha]; exact Nat.le_refl _
  · exact (decode_high s pos h (by omega)).2
theorem itemsFrom_end (s : ByteArray) (fuel pos : Nat) (h : ¬ pos < s.size) : itemsFrom s fuel pos = [] := by
  cases fuel with
  | zero => rfl
  | succ f => simp [itemsFrom, h]
def pRunes (l : List UInt8) : Nat := ((items l).filter fun x => !pStray l x.1 x.2).length
def pStrays (l : List UInt8) : Nat := ((items l).filter fun x => pStray l x.1 x.2).length

end YtaclnlmmkcjjeaaDoor
end Go.Proofs

namespace Go.Proofs.YtaclnlmmkcjjeaaDoor
open Go.RowKit
set_option linter.unusedSimpArgs false
set_option linter.unusedVariables false

/-- May the rune stand at that place of a name? -/
def nameRune (i r : Nat) : Bool := pSmall r || (i != 0 && pDigit r)
/-- All runes from place i on. -/
def nameFrom : Nat → List (Nat × Nat) → Bool
  | _, [] => true
  | i, x :: l => nameRune i x.2 && nameFrom (i + 1) l
def pRight (l : List UInt8) : Bool := nameFrom 0 (items l) && (decide (1 ≤ (items l).length) && decide ((items l).length ≤ 12))

set_option maxHeartbeats 2000000 in
set_option maxRecDepth 100000 in
theorem right_calls (l : List UInt8) (hl : l.length ≤ 4611686018427387904) (w : World) :
    Calls Tryd.prog 32 #[.string (str l)] w fun e w' => e = .returned (.bool (pRight l)) ∧ Below w.heap.size w w' := by
  have hsz : (str l).size = l.length := str_size l
  generalize hs : str l = s at *
  generalize hR : pRight l = R
  have HR := hide hR
  have Hs := hide hs
  have Hsz := hide hsz
  clear hs hsz hR
  go_enter Tryd.func32, Tryd.ntmps32
  go_wp2
  go_loopw [3] (fun a wr => ∃ (pos fuel : Nat) (dn : List (Nat × Nat)), a = .int .i64 (dn.length : Int) ∧ wr.heap[w.heap.size]? = some (.stringIter s pos) ∧ Below w.heap.size w wr ∧ Hid (items l = dn ++ itemsFrom s fuel pos) ∧ Hid (nameFrom 0 (items l) = nameFrom dn.length (itemsFrom s fuel pos)) ∧ l.length ≤ pos + fuel ∧ dn.length ≤ pos) (fun _ wr => l.length - wr.iterPos w.heap.size)
  case atStart =>
    have e : items l = itemsFrom s l.length 0 := by rw [items, unhide Hs]
    refine ⟨0, l.length, [], rfl, ?_, (Below.refl _ w).alloc (Nat.le_refl _) _, ?_, ?_, by omega, by simp⟩
    · have := World.iter_heap w s 0
      simpa using this
    · exact e
    · show nameFrom 0 (items l) = _; rw [e]; rfl
  case round =>
    obtain ⟨pos, fuel, dn, rfl, hit, hb, hI, hN, hf, hdn⟩ := hrel
    have hlt : w.heap.size < wr.heap.size := (Array.getElem?_eq_some_iff.1 hit).1
    have hsz := unhide Hsz
    by_cases hp : pos < s.size
    · have hnx : ∀ ty, (Instr.next (.pointer (some ⟨w.heap.size, 0, none⟩)) true ty).run Tryd.prog wr = _ := fun ty => Lib.run_next_any_at wr w.heap.size s pos ty hit hp
      have hwd := width_pos s pos hp
      have hd1 := decode_le s pos
      have hit2 := Lib.iterAt_heap wr w.heap.size s pos (pos + (Utf8.decode s pos).2) hit
      have hb2 := Lib.below_iterAt hb (k := w.heap.size) (Nat.le_refl _) s (pos + (Utf8.decode s pos).2)
      obtain ⟨f, rfl⟩ : ∃ f, fuel = f + 1 := ⟨fuel - 1, by omega⟩
      have hnew : items l = (dn ++ [(pos, (Utf8.decode s pos).1)]) ++ itemsFrom s f (pos + (Utf8.decode s pos).2) := by
        rw [unhide hI]; simp [itemsFrom, hp]
      have hname : nameFrom 0 (items l) = (nameRune dn.length (Utf8.decode s pos).1 && nameFrom (dn.length + 1) (itemsFrom s f (pos + (Utf8.decode s pos).2))) := by
        rw [unhide hN]; simp [itemsFrom, hp, nameFrom]
      generalize hr : (Utf8.decode s pos).1 = r at *
      generalize hwv : (Utf8.decode s pos).2 = wd at *
      have hpl : pos < l.length := by omega
      have Hnew := hide hnew
      have Hname := hide hname
      have Hit2 := hide hit2
      clear hnew hname hr hwv hI hN hit2 hsz
      generalize hdl : dn.length = dl at *
      have Hdl := hide hdl
      have w1 := wi64 ((dl : Int) + 1) (by omega) (by omega)
      clear hdl
      cases hc : nameRune dl r with
      | true =>
        have hgo : pSmall r = true ∨ (pSmall r = false ∧ dl ≠ 0 ∧ pDigit r = true) := by
          cases h1 : pSmall r with
          | true => exact .inl rfl
          | false => right; simpa [nameRune, h1] using hc
        have hrel' : (∃ pos_1 fuel dn_1, Value.int .i64 ((dl : Int) + 1) = Value.int .i64 ((dn_1 : List (Nat × Nat)).length : Int) ∧ (wr.iterAt w.heap.size s (pos + wd)).heap[w.heap.size]? = some (.stringIter s pos_1) ∧ Below w.heap.size w (wr.iterAt w.heap.size s (pos + wd)) ∧ Hid (items l = dn_1 ++ itemsFrom s fuel pos_1) ∧ Hid (nameFrom 0 (items l) = nameFrom dn_1.length (itemsFrom s fuel pos_1)) ∧ l.length ≤ pos_1 + fuel ∧ dn_1.length ≤ pos_1) ∧ l.length - (wr.iterAt w.heap.size s (pos + wd)).iterPos w.heap.size < l.length - wr.iterPos w.heap.size := by
          have hdl := unhide Hdl
          refine ⟨⟨pos + wd, f, dn ++ [(pos, r)], by simp [hdl], unhide Hit2, hb2, Hnew, ?_, by omega, by simp; omega⟩, ?_⟩
          · show nameFrom 0 (items l) = _
            rw [unhide Hname, hc, Bool.true_and, List.length_append, hdl]; rfl
          · simp only [World.iterPos, unhide Hit2, hit]; omega
        have Hrel' := hide hrel'
        clear hrel'
        rcases hgo with h1 | ⟨h1, h2, h3⟩
        · have Hsm := fun w => isSmall_calls r w
          rw [h1] at Hsm
          have HSm := hide Hsm
          clear Hsm h1 hc
          go_wp2_with (first
            | (go_at_call 46; refine (unhide HSm _).mono ?_; rintro e w' ⟨rfl, rfl⟩)
            | (go_at_call 47; refine (isDigit_calls _ _).mono ?_; rintro e w' ⟨rfl, rfl⟩))
          exact unhide Hrel'
        · have Hsm := fun w => isSmall_calls r w
          have Hdg := fun w => isDigit_calls r w
          rw [h1] at Hsm
          rw [h3] at Hdg
          have HSm := hide Hsm
          have HDg := hide Hdg
          have hd0 : ((dl : Int) == 0) = false := by simp; omega
          clear Hsm Hdg h1 h3 hc
          go_wp2_with (first
            | (go_at_call 46; refine (unhide HSm _).mono ?_; rintro e w' ⟨rfl, rfl⟩)
            | (go_at_call 47; refine (unhide HDg _).mono ?_; rintro e w' ⟨rfl, rfl⟩))
          exact unhide Hrel'
      | false =>
        have hRf : R = false := by rw [← unhide HR, pRight, unhide Hname, hc]; rfl
        have HRf := hide hRf
        have hsm : pSmall r = false := by cases h1 : pSmall r with | false => rfl | true => simp [nameRune, h1] at hc
        have Hsm := fun w => isSmall_calls r w
        rw [hsm] at Hsm
        have HSm := hide Hsm
        by_cases h0 : dl = 0
        · have hd0 : ((dl : Int) == 0) = true := by simp; omega
          clear Hsm hsm hc hRf
          go_wp2_with (go_at_call 46; refine (unhide HSm _).mono ?_; rintro e w' ⟨rfl, rfl⟩)
          go_ret
          exact ⟨by rw [unhide HRf]; rfl, hb2⟩
        · have hd0 : ((dl : Int) == 0) = false := by simp; omega
          have hdg : pDigit r = false := by cases h1 : pDigit r with | false => rfl | true => simp [nameRune, h1, h0] at hc
          have Hdg := fun w => isDigit_calls r w
          rw [hdg] at Hdg
          have HDg := hide Hdg
          clear Hsm hsm Hdg hdg hc hRf
          go_wp2_with (first
            | (go_at_call 46; refine (unhide HSm _).mono ?_; rintro e w' ⟨rfl, rfl⟩)
            | (go_at_call 47; refine (unhide HDg _).mono ?_; rintro e w' ⟨rfl, rfl⟩))
          go_ret
          exact ⟨by rw [unhide HRf]; rfl, hb2⟩
    · have hnx : ∀ ty, (Instr.next (.pointer (some ⟨w.heap.size, 0, none⟩)) true ty).run Tryd.prog wr = _ := fun ty => Lib.run_next_end_at wr w.heap.size s pos ty hit hp
      have hI' := unhide hI
      have hN' := unhide hN
      rw [itemsFrom_end s fuel pos hp, List.append_nil] at hI'
      rw [itemsFrom_end s fuel pos hp] at hN'
      have h1 : R = (decide (1 ≤ dn.length) && decide (dn.length ≤ 12)) := by
        rw [← unhide HR, pRight, hN', hI']; simp [nameFrom]
      have H1 := hide h1
      clear hI' hN' h1 hsz
      generalize dn.length = n at *
      cases d1 : decide ((1 : Int) ≤ (n : Int)) <;> cases d2 : decide ((n : Int) ≤ 12)
      all_goals
        go_wp2
        go_ret
        refine ⟨?_, hb⟩
        rw [unhide H1]
        simp only [decide_eq_true_eq, decide_eq_false_iff_not] at d1 d2
        simp
        omega
end Go.Proofs.YtaclnlmmkcjjeaaDoor

namespace Go.Proofs.YtaclnlmmkcjjeaaDoor
open Go.RowKit
set_option linter.unusedSimpArgs false
set_option linter.unusedVariables false

theorem decode_four (s : ByteArray) (pos : Nat) : (Utf8.decode s pos).2 ≤ 4 := by
  simp only [Utf8.decode]
  repeat' split
  all_goals simp_all [Utf8.runeError]
theorem itemsFrom_four (s : ByteArray) : ∀ (fuel pos : Nat), s.size ≤ pos + fuel → s.size ≤ pos + 4 * (itemsFrom s fuel pos).length
  | 0, pos, h => by simp [itemsFrom]; omega
  | f + 1, pos, h => by
    unfold itemsFrom
    split
    · rename_i hp
      have h1 := width_pos s pos hp
      have h2 := decode_four s pos
      have := itemsFrom_four s f (pos + (Utf8.decode s pos).2) (by omega)
      simp only [List.length_cons]; omega
    · omega
/-- A name has at most 48 bytes. -/
theorem pRight_len (l : List UInt8) (h : pRight l = true) : l.length ≤ 48 := by
  have h1 := itemsFrom_four (str l) l.length 0 (by rw [str_size]; omega)
  rw [str_size] at h1
  simp only [pRight, Bool.and_eq_true, decide_eq_true_eq] at h
  have h2 := h.2.2
  unfold items at h2
  omega

/-- A letter. -/
structure Lt where
  (fr no tt : Nat) (se re bo : List UInt8)
def Lt.zero : Lt := ⟨0, 0, 0, [], [], []⟩
structure Lt.ok (x : Lt) : Prop where
  (fr : x.fr < 4294967296) (no : x.no < 4294967296) (tt : x.tt < 4294967296)
def Lt.cells (x : Lt) : Array Value := #[.int .u32 (x.fr : Int), .int .u32 (x.no : Int), .int .u32 (x.tt : Int), .string (str x.se), .string (str x.re), .string (str x.bo)]
def Lt.right (x : Lt) : Bool := if pRight x.se then (if pRight x.re then decide (x.bo.length ≤ 300) else false) else false
def Lt.bytes (x : Lt) : List UInt8 := pBig x.fr 4 ++ (pBig x.no 4 ++ (pBig x.tt 4 ++ (pText4 x.se ++ (pText4 x.re ++ pText4 x.bo))))
def Rd.l1 (r : Rd) : Nat × Rd := r.num 4
def Rd.l2 (r : Rd) : Nat × Rd := r.l1.2.num 4
def Rd.l3 (r : Rd) : Nat × Rd := r.l2.2.num 4
def Rd.l4 (r : Rd) : List UInt8 × Rd := r.l3.2.text 48
def Rd.l5 (r : Rd) : List UInt8 × Rd := r.l4.2.text 48
def Rd.l6 (r : Rd) : List UInt8 × Rd := r.l5.2.text 300
def Rd.letter (r : Rd) : Lt := ⟨r.l1.1, r.l2.1, r.l3.1, r.l4.1, r.l5.1, r.l6.1⟩
/-- The letter that bytes are, and what is wrong with them. -/
def pLRead (l : List UInt8) : Lt × Int :=
  if (⟨l, 0⟩ : Rd).l6.2.end' ≠ 0 then (Lt.zero, (⟨l, 0⟩ : Rd).l6.2.end') else if (⟨l, 0⟩ : Rd).letter.right then ((⟨l, 0⟩ : Rd).letter, 0) else (Lt.zero, 4)
theorem Rd.text_rest (r : Rd) (m : Int) : (r.text m).2.rest.length ≤ r.rest.length := Nat.le_trans (Rd.take_rest _ _) (r.len_rest m)
theorem Rd.num_rest (r : Rd) (n : Nat) : (r.num n).2.rest.length ≤ r.rest.length := Rd.take_rest _ _
theorem Rd.l1_rest (r : Rd) : r.l1.2.rest.length ≤ r.rest.length := Rd.num_rest _ _
theorem Rd.l2_rest (r : Rd) : r.l2.2.rest.length ≤ r.rest.length := Nat.le_trans (Rd.num_rest _ _) r.l1_rest
theorem Rd.l3_rest (r : Rd) : r.l3.2.rest.length ≤ r.rest.length := Nat.le_trans (Rd.num_rest _ _) r.l2_rest
theorem Rd.l4_rest (r : Rd) : r.l4.2.rest.length ≤ r.rest.length := Nat.le_trans (Rd.text_rest _ _) r.l3_rest
theorem Rd.l5_rest (r : Rd) : r.l5.2.rest.length ≤ r.rest.length := Nat.le_trans (Rd.text_rest _ _) r.l4_rest
theorem Rd.l6_rest (r : Rd) : r.l6.2.rest.length ≤ r.rest.length := Nat.le_trans (Rd.text_rest _ _) r.l5_rest
theorem Rd.letter_ok (r : Rd) : r.letter.ok := ⟨Rd.num_lt _ 4, Rd.num_lt _ 4, Rd.num_lt _ 4⟩
theorem Rd.take_len (r : Rd) (n : Nat) : (r.take n).1.length ≤ r.rest.length := by
  unfold Rd.take
  split
  · simp
  · split <;> simp
    omega
theorem Rd.text_len (r : Rd) (m : Int) : (r.text m).1.length ≤ r.rest.length := Nat.le_trans (Rd.take_len _ _) (r.len_rest m)
theorem Rd.l4_len (r : Rd) : r.l4.1.length ≤ r.rest.length := Nat.le_trans (Rd.text_len _ _) r.l3_rest
theorem Rd.l5_len (r : Rd) : r.l5.1.length ≤ r.rest.length := Nat.le_trans (Rd.text_len _ _) r.l4_rest
theorem Rd.l6_len (r : Rd) : r.l6.1.length ≤ r.rest.length := Nat.le_trans (Rd.text_len _ _) r.l5_rest
theorem text_back' (s t : List UInt8) (m : Int) (hm : (s.length : Int) ≤ m) (h : s.length < 4294967296) : (⟨pText4 s ++ t, 0⟩ : Rd).text m = (s, ⟨t, 0⟩) := by
  simp only [Rd.text, pText4, List.append_assoc, len_back s.length h m hm, take_back s t s.length rfl]
theorem Lt.right_iff (x : Lt) : x.right = true ↔ pRight x.se = true ∧ pRight x.re = true ∧ x.bo.length ≤ 300 := by
  unfold Lt.right
  cases pRight x.se <;> cases pRight x.re <;> simp
/-- What is written is read as it was. -/
theorem letter_back (x : Lt) (h : x.ok) (hr : x.right = true) : pLRead x.bytes = (x, 0) := by
  obtain ⟨r1, r2, r3⟩ := x.right_iff.1 hr
  have n1 := pRight_len _ r1
  have n2 := pRight_len _ r2
  have e1 : (⟨x.bytes, 0⟩ : Rd).l1 = (x.fr, ⟨pBig x.no 4 ++ (pBig x.tt 4 ++ (pText4 x.se ++ (pText4 x.re ++ pText4 x.bo))), 0⟩) := num_back _ 4 h.fr _
  have e2 : (⟨x.bytes, 0⟩ : Rd).l2 = (x.no, ⟨pBig x.tt 4 ++ (pText4 x.se ++ (pText4 x.re ++ pText4 x.bo)), 0⟩) := by rw [Rd.l2, e1]; exact num_back _ 4 h.no _
  have e3 : (⟨x.bytes, 0⟩ : Rd).l3 = (x.tt, ⟨pText4 x.se ++ (pText4 x.re ++ pText4 x.bo), 0⟩) := by rw [Rd.l3, e2]; exact num_back _ 4 h.tt _
  have e4 : (⟨x.bytes, 0⟩ : Rd).l4 = (x.se, ⟨pText4 x.re ++ pText4 x.bo, 0⟩) := by rw [Rd.l4, e3]; exact text_back' _ _ 48 (by omega) (by omega)
  have e5 : (⟨x.bytes, 0⟩ : Rd).l5 = (x.re, ⟨pText4 x.bo, 0⟩) := by rw [Rd.l5, e4]; exact text_back' _ _ 48 (by omega) (by omega)
  have e6 : (⟨x.bytes, 0⟩ : Rd).l6 = (x.bo, ⟨[], 0⟩) := by
    rw [Rd.l6, e5]
    have := text_back' x.bo [] 300 (by omega) (by omega)
    rwa [List.append_nil] at this
  have el : (⟨x.bytes, 0⟩ : Rd).letter = x := by rw [Rd.letter, e1, e2, e3, e4, e5, e6]
  have ee : (⟨x.bytes, 0⟩ : Rd).l6.2.end' = 0 := by rw [e6]; rfl
  unfold pLRead
  rw [el, ee, hr]
  rfl
/-- What is read is written so. -/
theorem letter_read (l : List UInt8) (h : (pLRead l).2 = 0) : (pLRead l).1.right = true ∧ (pLRead l).1.bytes = l := by
  unfold pLRead at *
  split at h
  · rename_i hn; exact absurd h hn
  · rename_i hn
    have he : (⟨l, 0⟩ : Rd).l6.2.end' = 0 := by
      apply Classical.byContradiction; exact hn
    split at h
    · rename_i hr
      rw [if_neg hn, if_pos hr]
      refine ⟨hr, ?_⟩
      obtain ⟨o6, z⟩ := Rd.end_ok _ he
      obtain ⟨o5, t6⟩ := Rd.text_ok _ _ o6
      obtain ⟨o4, t5⟩ := Rd.text_ok _ _ o5
      obtain ⟨o3, t4⟩ := Rd.text_ok _ _ o4
      obtain ⟨o2, t3⟩ := Rd.num_ok _ _ o3
      obtain ⟨o1, t2⟩ := Rd.num_ok _ _ o2
      obtain ⟨o0, t1⟩ := Rd.num_ok _ _ o1
      change l = pBig (⟨l, 0⟩ : Rd).l1.1 4 ++ (⟨l, 0⟩ : Rd).l1.2.rest at t1
      change (⟨l, 0⟩ : Rd).l1.2.rest = pBig (⟨l, 0⟩ : Rd).l2.1 4 ++ (⟨l, 0⟩ : Rd).l2.2.rest at t2
      change (⟨l, 0⟩ : Rd).l2.2.rest = pBig (⟨l, 0⟩ : Rd).l3.1 4 ++ (⟨l, 0⟩ : Rd).l3.2.rest at t3
      change (⟨l, 0⟩ : Rd).l3.2.rest = pText4 (⟨l, 0⟩ : Rd).l4.1 ++ (⟨l, 0⟩ : Rd).l4.2.rest at t4
      change (⟨l, 0⟩ : Rd).l4.2.rest = pText4 (⟨l, 0⟩ : Rd).l5.1 ++ (⟨l, 0⟩ : Rd).l5.2.rest at t5
      change (⟨l, 0⟩ : Rd).l5.2.rest = pText4 (⟨l, 0⟩ : Rd).l6.1 ++ (⟨l, 0⟩ : Rd).l6.2.rest at t6
      rw [z, List.append_nil] at t6
      show pBig (⟨l, 0⟩ : Rd).l1.1 4 ++ (pBig (⟨l, 0⟩ : Rd).l2.1 4 ++ (pBig (⟨l, 0⟩ : Rd).l3.1 4 ++ (pText4 (⟨l, 0⟩ : Rd).l4.1 ++ (pText4 (⟨l, 0⟩ : Rd).l5.1 ++ pText4 (⟨l, 0⟩ : Rd).l6.1)))) = l
      rw [← t6, ← t5, ← t4, ← t3, ← t2]; exact t1.symm
    · rename_i hr
      cases h
end Go.Proofs.YtaclnlmmkcjjeaaDoor

namespace Go.Proofs.YtaclnlmmkcjjeaaDoor
open Go Go.RowKit

theorem mapM_some {α β : Type} (f : α → Option β) (g : α → β) (l : List α) (h : ∀ x ∈ l, f x = some (g x)) : l.mapM f = some (l.map g) := by
  induction l with
  | nil => rfl
  | cons x l ih =>
    rw [List.mapM_cons, h x (by simp), ih (fun y hy => h y (by simp [hy]))]; rfl

/-- The data of an array of integers. -/
theorem keyLits_ints {P : Program} (t e : TypeId) (n : Nat) (k : IntKind) (hu : P.underlying t = some (.array n e)) (he : P.underlying e = some (.int k)) (hce : P.cellsOf e = 1) (hct : P.cellsOf t = n)
    (zs : List Int) (hl : zs.length = n) (hw : ∀ z ∈ zs, (Lit.int k z).wf = true) : ∃ la, P.keyLits 2 t (zs.map (Value.int k)) = some la := by
  unfold Program.keyLits
  simp only [hu]
  rw [if_pos (by simp [hl, hct])]
  rw [mapM_some _ (fun i => [Lit.int k (zs.getD i 0)]) _ (fun i hi => ?_)]
  · exact ⟨_, rfl⟩
  · have hi' : i < zs.length := by rw [hl]; exact List.mem_range.1 hi
    rw [hce, Nat.mul_one, List.drop_eq_getElem_cons (by simpa using hi')]
    unfold Program.keyLits
    simp only [he]
    have hz : (Lit.int k zs[i]).wf = true := hw _ (List.getElem_mem _)
    simp [hz, hi']

theorem equalIn_refl {P : Program} (t : TypeId) (m D : Nat) (hm : m ≤ 10000) (hk : P.keyTypeAt m t = true) (cs : Array Value) (hf : (Value.agg cs).formed P t = true) (la : List Lit) (hla : P.keyLits D t cs.toList = some la) (w : World) :
    (Op.equalIn 10000 t (.agg cs) (.agg cs)).run P w = .ok true w := by
  obtain ⟨r, hr, hiff⟩ := run_equalIn_deep (P := P) (10000 - m) m t hk w D D (.agg cs) (.agg cs) la la hf hf hla hla
  rw [show 10000 - m + m = 10000 by omega] at hr
  obtain rfl : r = true := hiff.2 rfl
  exact hr
/-- A value of such a type equals itself. -/
theorem eql_refl {P : Program} (t : TypeId) (m D : Nat) (hm : m ≤ 10000) (hk : P.keyTypeAt m t = true) (cs : Array Value) (hf : (Value.agg cs).formed P t = true) (la : List Lit) (hla : P.keyLits D t cs.toList = some la) (w : World) :
    (binOp .eql t (.agg cs) (.agg cs)).run P w = .ok (.bool true) w := by
  obtain ⟨r, hr, hiff⟩ := run_equalIn_deep (P := P) (10000 - m) m t hk w D D (.agg cs) (.agg cs) la la hf hf hla hla
  rw [show 10000 - m + m = 10000 by omega] at hr
  obtain rfl : r = true := hiff.2 rfl
  rw [run_eql_struct, hr]; rfl

end Go.Proofs.YtaclnlmmkcjjeaaDoor

namespace Go.Proofs.YtaclnlmmkcjjeaaDoor
open Go.RowKit
set_option linter.unusedSimpArgs false
set_option linter.unusedVariables false

theorem let_info (x : Lt) : (Tryd.prog.info? 24).map (·.size) = some x.cells.size := (show (Tryd.prog.info? 24).map (·.size) = some 6 by kernel_rfl)
theorem let_size (x : Lt) : x.cells.size = 6 := rfl
theorem let_one (x : Lt) : x.cells.all (·.oneCell') = true := by simp [Lt.cells, Value.oneCell']
set_option maxRecDepth 100000 in
theorem lright_calls (x : Lt) (h1 : x.se.length ≤ 4611686018427387904) (h2 : x.re.length ≤ 4611686018427387904) (w : World) :
    Calls Tryd.prog 17 #[.agg x.cells] w fun e w' => e = .returned (.bool x.right) ∧ Below w.heap.size w w' := by
  obtain ⟨fr, no, tt, se, re, bo⟩ := x
  unfold Lt.right Lt.cells
  have k1 := hide fun W => right_calls se h1 W
  have k2 := hide fun W => right_calls re h2 W
  simp only
  generalize pRight se = a at *
  generalize pRight re = b at *
  have hsz := str_size bo
  have hle : decide ((bo.length : Int) ≤ 300) = decide (bo.length ≤ 300) := by congr 1; apply propext; omega
  generalize hR : (if a = true then (if b = true then decide (bo.length ≤ 300) else false) else false) = R
  have HR := hide hR
  have hb0 : Below w.heap.size w (w.alloc (.cells (⟨fr, no, tt, se, re, bo⟩ : Lt).cells 24)) := (Below.refl _ w).alloc (Nat.le_refl _) _
  clear h1 h2 hR
  go_enter Tryd.func17, Tryd.ntmps17
  go_wp2_with fail
  refine (unhide k1 _).mono ?_
  rintro e w1 ⟨rfl, b1⟩
  obtain ⟨c1, -, z1, -⟩ := alloc_kept b1
  have hb1 := hb0.trans (b1.mono (by simp [Lt.cells]))
  have d1 := c1 4
  have d2 := c1 5
  simp only [List.getElem?_toArray, List.getElem?_cons_succ, List.getElem?_cons_zero] at d1 d2
  clear c1 b1
  cases a with
  | false =>
    go_wp2_with fail
    go_ret
    exact ⟨by rw [← unhide HR]; rfl, hb1⟩
  | true =>
    go_wp2_with fail
    refine (unhide k2 _).mono ?_
    rintro e w2 ⟨rfl, b2⟩
    have d3 := ((bcell b2).1 w.heap.size 5 z1).trans d2
    have hb2 := hb1.trans (b2.mono (Nat.le_of_lt z1))
    cases b with
    | false =>
      go_wp2_with fail
      go_ret
      exact ⟨by rw [← unhide HR]; rfl, hb2⟩
    | true =>
      go_wp2_with fail
      go_ret
      exact ⟨by rw [← unhide HR]; simp, hb2⟩
end Go.Proofs.YtaclnlmmkcjjeaaDoor

namespace Go.Proofs.YtaclnlmmkcjjeaaDoor
open Go.RowKit
set_option linter.unusedSimpArgs false
set_option linter.unusedVariables false

set_option maxHeartbeats 2000000 in
set_option maxRecDepth 100000 in
theorem lwritten_calls (x : Lt) (ok : x.ok) (h1 : x.se.length ≤ 4000000000) (h2 : x.re.length ≤ 4000000000) (h3 : x.bo.length ≤ 4000000000) (w : World) :
    Calls Tryd.prog 16 #[.agg x.cells] w fun e w' => e = .returned (.string (str x.bytes)) ∧ Below w.heap.size w w' := by
  unfold Lt.bytes
  have hb0 := (Below.refl w.heap.size w).alloc (Nat.le_refl _) (.cells x.cells 24)
  have q0 := al1 w (.cells x.cells 24)
  have L1 := pBig_length x.fr 4
  have L2 := pBig_length x.no 4
  have L3 := pBig_length x.tt 4
  have L4 := pText4_length x.se
  have L5 := pText4_length x.re
  have L6 := pText4_length x.bo
  have w1 := fun w => wword_calls x.fr ok.fr w
  have w2 := fun w => wword_calls x.no ok.no w
  have w3 := fun w => wword_calls x.tt ok.tt w
  have w4 := fun w => wtext_calls x.se (by omega) w
  have w5 := fun w => wtext_calls x.re (by omega) w
  have w6 := fun w => wtext_calls x.bo (by omega) w
  obtain ⟨fr, no, tt, se, re, bo⟩ := x
  simp only [Lt.cells] at *
  generalize pBig fr 4 = P1 at *
  generalize pBig no 4 = P2 at *
  generalize pBig tt 4 = P3 at *
  generalize pText4 se = P4 at *
  generalize pText4 re = P5 at *
  generalize pText4 bo = P6 at *
  have a1 := append_str P1 P2
  have a2 : str (P1 ++ P2) ++ str P3 = str (P1 ++ (P2 ++ P3)) := by rw [append_str]; simp
  have a3 : str (P1 ++ (P2 ++ P3)) ++ str P4 = str (P1 ++ (P2 ++ (P3 ++ P4))) := by rw [append_str]; simp
  have a4 : str (P1 ++ (P2 ++ (P3 ++ P4))) ++ str P5 = str (P1 ++ (P2 ++ (P3 ++ (P4 ++ P5)))) := by rw [append_str]; simp
  have a5 : str (P1 ++ (P2 ++ (P3 ++ (P4 ++ P5)))) ++ str P6 = str (P1 ++ (P2 ++ (P3 ++ (P4 ++ (P5 ++ P6))))) := by rw [append_str]; simp
  have n1 : ¬ 9223372036854775807 < P1.length + P2.length := by omega
  have n2 : ¬ 9223372036854775807 < P1.length + P2.length + P3.length := by omega
  have n3 : ¬ 9223372036854775807 < P1.length + (P2.length + P3.length) + P4.length := by omega
  have n4 : ¬ 9223372036854775807 < P1.length + (P2.length + (P3.length + P4.length)) + P5.length := by omega
  have n5 : ¬ 9223372036854775807 < P1.length + (P2.length + (P3.length + (P4.length + P5.length))) + P6.length := by omega
  generalize hX : w.alloc (.cells #[.int .u32 (fr : Int), .int .u32 (no : Int), .int .u32 (tt : Int), .string (str se), .string (str re), .string (str bo)] 24) = X at *
  have hzX : w.heap.size < X.heap.size := (Array.getElem?_eq_some_iff.1 q0).1
  have cg : ∀ j v, (#[Value.int .u32 (fr : Int), .int .u32 (no : Int), .int .u32 (tt : Int), .string (str se), .string (str re), .string (str bo)] : Array Value)[j]? = some v → ∀ d os, (Sort.grow (redrawn X d) os).cell? ⟨w.heap.size, j, none⟩ = some v := fun j v hv d os => by
    rw [(below_regrown X d os).cell (p := ⟨w.heap.size, j, none⟩) hzX]; exact (sig_cell q0).1 j v hv
  have c0 : ∀ d os, (Sort.grow (redrawn X d) os).cell? ⟨w.heap.size, 0, none⟩ = some (.int .u32 (fr : Int)) := cg 0 _ rfl
  have c1 : ∀ d os, (Sort.grow (redrawn X d) os).cell? ⟨w.heap.size, 1, none⟩ = some (.int .u32 (no : Int)) := cg 1 _ rfl
  have c2 : ∀ d os, (Sort.grow (redrawn X d) os).cell? ⟨w.heap.size, 2, none⟩ = some (.int .u32 (tt : Int)) := cg 2 _ rfl
  have c3 : ∀ d os, (Sort.grow (redrawn X d) os).cell? ⟨w.heap.size, 3, none⟩ = some (.string (str se)) := cg 3 _ rfl
  have c4 : ∀ d os, (Sort.grow (redrawn X d) os).cell? ⟨w.heap.size, 4, none⟩ = some (.string (str re)) := cg 4 _ rfl
  have c5 : ∀ d os, (Sort.grow (redrawn X d) os).cell? ⟨w.heap.size, 5, none⟩ = some (.string (str bo)) := cg 5 _ rfl
  have k1 := hide fun d os => Calls.regrown_of (w := X) (d := d) (os := os) (w1 _)
  have k2 := hide fun d os => Calls.regrown_of (w := X) (d := d) (os := os) (w2 _)
  have k3 := hide fun d os => Calls.regrown_of (w := X) (d := d) (os := os) (w3 _)
  have k4 := hide fun d os => Calls.regrown_of (w := X) (d := d) (os := os) (w4 _)
  have k5 := hide fun d os => Calls.regrown_of (w := X) (d := d) (os := os) (w5 _)
  have k6 := hide fun d os => Calls.regrown_of (w := X) (d := d) (os := os) (w6 _)
  have HX := hide hX
  clear cg hX w1 w2 w3 w4 w5 w6 L1 L2 L3 L4 L5 L6 h1 h2 h3 q0 ok
  go_enter Tryd.func16, Tryd.ntmps16
  go_wp2_with fail
  rw [unhide HX]
  refine wp_region_below mixed (by kernel_rfl) ?_
  quiet_step (fail)
  quiet_step (fail)
  quiet_step (exact unhide k1 _ _)
  quiet_step (fail)
  quiet_step (fail)
  quiet_step (exact unhide k2 _ _)
  quiet_step (fail)
  quiet_step (fail)
  quiet_step (fail)
  quiet_step (exact unhide k3 _ _)
  quiet_step (fail)
  quiet_step (fail)
  quiet_step (fail)
  quiet_step (exact unhide k4 _ _)
  quiet_step (fail)
  quiet_step (fail)
  quiet_step (fail)
  quiet_step (exact unhide k5 _ _)
  quiet_step (fail)
  quiet_step (fail)
  quiet_step (fail)
  quiet_step (exact unhide k6 _ _)
  repeat (quiet_step (fail))
  refine wpQuiet_nil ?_
  intro w3 hb3
  go_wp2
  go_ret
  exact ⟨rfl, hb0.trans (hb3.mono hb0.size)⟩
/-- A letter's bytes, and what is wrong with it. -/
def pLBytes (x : Lt) : List UInt8 × Int := if x.right = true then (x.bytes, 0) else ([], 4)
set_option maxRecDepth 100000 in
theorem lbytes_calls (x : Lt) (ok : x.ok) (h1 : x.se.length ≤ 4000000000) (h2 : x.re.length ≤ 4000000000) (h3 : x.bo.length ≤ 4000000000) (w : World) :
    Calls Tryd.prog 11 #[.agg x.cells] w fun e w' => e = .returned (.tuple #[.string (str (pLBytes x).1), .int .i64 (pLBytes x).2]) ∧ Below w.heap.size w w' := by
  have c1 := hide fun W => lright_calls x (by omega) (by omega) W
  have c2 := hide fun W => lwritten_calls x ok h1 h2 h3 W
  have hi := let_info x
  have hb0 := (Below.refl w.heap.size w).alloc (Nat.le_refl _) (.cells x.cells 24)
  have q0 := al1 w (.cells x.cells 24)
  unfold pLBytes
  generalize x.right = R at *
  generalize x.bytes = B at *
  generalize x.cells = C at *
  clear h1 h2 h3 ok
  go_enter Tryd.func11, Tryd.ntmps11
  go_wp2_with (refine wpList_load_row rfl 24 (.tmp 1) rfl w.heap.size rfl 24 C (0, 0) _ q0 Tryd.underlying24 rfl hi ?_)
  refine (unhide c1 _).mono ?_
  rintro e w1 ⟨rfl, b1⟩
  have q1 := Below.at b1 (by simp) q0
  have hb1 := hb0.trans (b1.mono (by simp))
  cases R with
  | false =>
    go_wp2_with fail
    go_ret2
    exact ⟨rfl, hb1⟩
  | true =>
    go_wp2_with (refine wpList_load_row rfl 24 (.tmp 1) rfl w.heap.size rfl 24 C (0, 0) _ q1 Tryd.underlying24 rfl hi ?_)
    refine (unhide c2 _).mono ?_
    rintro e w2 ⟨rfl, b2⟩
    have hb2 := hb1.trans (b2.mono hb1.size)
    go_wp2_with fail
    go_ret2
    exact ⟨rfl, hb2⟩
end Go.Proofs.YtaclnlmmkcjjeaaDoor

namespace Go.Proofs.YtaclnlmmkcjjeaaDoor
open Go.RowKit
set_option linter.unusedSimpArgs false
set_option linter.unusedVariables false

set_option maxRecDepth 100000 in
theorem over_calls (l : List UInt8) (w : World) :
    Calls Tryd.prog 18 #[.string (str l)] w fun e w' => e = .returned (.pointer (some ⟨w.heap.size, 0, none⟩)) ∧ w' = w.alloc (.cells (⟨l, 0⟩ : Rd).cells 63) := by
  unfold Rd.cells
  simp only
  go_enter Tryd.func18, Tryd.ntmps18
  go_wp2
  go_ret
  exact ⟨rfl, rfl⟩

/-- Read's memory: the result, the letter, the reader. -/
structure LSt (w : World) (N : Nat) (wi : World) (row : Array Value) (r : Rd) : Prop where
  below : Below N w wi
  res : wi.heap[N]? = some (.cells Lt.zero.cells 24 (0, 0))
  x : wi.heap[N + 1]? = some (.cells row 24 (0, 0))
  rd : RdAt wi (N + 1 + 1) r
theorem LSt.turn {w : World} {N : Nat} {wi w' : World} {row : Array Value} {r r' : Rd} (h : LSt w N wi row r) (R : RdAt w' (N + 1 + 1) r') (T : Turned (N + 1 + 1) wi w') : LSt w N w' row r' :=
  ⟨T.under h.below (by omega), T.row (by omega) h.res, T.row (by omega) h.x, R⟩
theorem LSt.set {w : World} {N : Nat} {wi : World} {row row' : Array Value} {r : Rd} (h : LSt w N wi row r) (j : Nat) (v : Value) (e : row.setIfInBounds j v = row') : LSt w N (wi.setCell ⟨N + 1, j, none⟩ v) row' r := by
  refine ⟨h.below.setCell (p := ⟨N + 1, j, none⟩) (by show N ≤ N + 1; omega) _, ?_, ?_, h.rd.other (by omega) _⟩
  · rw [heap_setCell_other _ _ _ _ (by show N ≠ N + 1; omega)]; exact h.res
  · rw [← e]; exact heap_setCell_same _ _ _ _ _ _ h.x
theorem LSt.cell {w : World} {N : Nat} {wi : World} {row : Array Value} {r : Rd} (h : LSt w N wi row r) (j : Nat) : wi.cell? ⟨N + 1, j, none⟩ = row[j]? := by rw [cell_of_row _ _ _ _ _ _ h.x]
theorem LSt.frozen {w : World} {N : Nat} {wi : World} {row : Array Value} {r : Rd} (h : LSt w N wi row r) (j : Nat) : wi.frozen? ⟨N + 1, j, none⟩ = false := frozen_of_row _ _ _ _ _ h.x

set_option maxHeartbeats 2000000 in
set_option maxRecDepth 100000 in
theorem lread_calls (l : List UInt8) (hl : l.length ≤ 4611686018427387904) (w : World) :
    Calls Tryd.prog 12 #[.string (str l)] w fun e w' => e = .returned (.tuple #[.agg (pLRead l).1.cells, .int .i64 (pLRead l).2]) ∧ Below w.heap.size w w' := by
  obtain ⟨r0, h0⟩ : ∃ r, (⟨l, 0⟩ : Rd) = r := ⟨_, rfl⟩
  have hl0 : r0.rest.length ≤ 4611686018427387904 := by rw [← h0]; exact hl
  have m1 := r0.l1_rest
  have m2 := r0.l2_rest
  have m3 := r0.l3_rest
  have m4 := r0.l4_rest
  have m5 := r0.l5_rest
  have s4 := r0.l4_len
  have s5 := r0.l5_len
  have k1 := hide fun W (h : RdAt W (w.heap.size + 1 + 1) r0) => rword_calls _ r0 hl0 W h
  have k2 := hide fun W (h : RdAt W (w.heap.size + 1 + 1) r0.l1.2) => rword_calls _ r0.l1.2 (by omega) W h
  have k3 := hide fun W (h : RdAt W (w.heap.size + 1 + 1) r0.l2.2) => rword_calls _ r0.l2.2 (by omega) W h
  have k4 := hide fun W (h : RdAt W (w.heap.size + 1 + 1) r0.l3.2) => rdtext_calls _ r0.l3.2 (by omega) 48 W h
  have k5 := hide fun W (h : RdAt W (w.heap.size + 1 + 1) r0.l4.2) => rdtext_calls _ r0.l4.2 (by omega) 48 W h
  have k6 := hide fun W (h : RdAt W (w.heap.size + 1 + 1) r0.l5.2) => rdtext_calls _ r0.l5.2 (by omega) 300 W h
  have k7 := hide fun W (h : RdAt W (w.heap.size + 1 + 1) r0.l6.2) => rdend_calls _ r0.l6.2 W h
  have k8 := hide fun W => lright_calls r0.letter (by show r0.l4.1.length ≤ _; omega) (by show r0.l5.1.length ≤ _; omega) W
  have e2 : r0.l1.2.num 4 = r0.l2 := rfl
  have e3 : r0.l2.2.num 4 = r0.l3 := rfl
  have e4 : r0.l3.2.text 48 = r0.l4 := rfl
  have e5 : r0.l4.2.text 48 = r0.l5 := rfl
  have e6 : r0.l5.2.text 300 = r0.l6 := rfl
  have e1 : r0.num 4 = r0.l1 := rfl
  rw [e1] at k1
  rw [e2] at k2
  rw [e3] at k3
  rw [e4] at k4
  rw [e5] at k5
  rw [e6] at k6
  unfold pLRead
  rw [h0]
  have ko := over_calls l
  rw [h0] at ko
  have hlt : r0.letter = ⟨r0.l1.1, r0.l2.1, r0.l3.1, r0.l4.1, r0.l5.1, r0.l6.1⟩ := rfl
  have hz : Lt.zero.cells.all (·.oneCell') = true := let_one _
  have hiz := let_info Lt.zero
  have hil := let_info r0.letter
  have hol := let_one r0.letter
  have hsl : r0.letter.cells.size = Lt.zero.cells.size := rfl
  obtain ⟨R, hR⟩ : ∃ R, r0.letter.right = R := ⟨_, rfl⟩
  rw [hR] at k8 ⊢
  have hcl : Hid (#[.int .u32 (r0.l1.1 : Int), .int .u32 (r0.l2.1 : Int), .int .u32 (r0.l3.1 : Int), .string (str r0.l4.1), .string (str r0.l5.1), .string (str r0.l6.1)] = r0.letter.cells) := rfl
  generalize r0.letter = X at *
  generalize r0.l1 = x1 at *
  generalize r0.l2 = x2 at *
  generalize r0.l3 = x3 at *
  generalize r0.l4 = x4 at *
  generalize r0.l5 = x5 at *
  generalize r0.l6 = x6 at *
  obtain ⟨a1, r1⟩ := x1
  obtain ⟨a2, r2⟩ := x2
  obtain ⟨a3, r3⟩ := x3
  obtain ⟨a4, r4⟩ := x4
  obtain ⟨a5, r5⟩ := x5
  obtain ⟨a6, r6⟩ := x6
  simp only at *
  generalize r6.end' = E at *
  clear m1 m2 m3 m4 m5 s4 s5 e1 e2 e3 e4 e5 e6 hlt hR h0 hl0 hl
  have L0 : LSt w w.heap.size (((w.alloc (.cells Lt.zero.cells 24)).alloc (.cells Lt.zero.cells 24)).alloc (.cells r0.cells 63)) Lt.zero.cells r0 :=
    ⟨bel3 w _ _ _, (al3 w _ _ _).1, (al3 w _ _ _).2.1, (al3 w _ _ _).2.2⟩
  obtain ⟨A, hA⟩ : ∃ A, (if E ≠ 0 then (Lt.zero, E) else if R = true then (X, 0) else (Lt.zero, 4)) = A := ⟨_, rfl⟩
  rw [hA]
  have HA := hide hA
  clear hA
  have HL0 := hide L0
  have Ko := hide ko
  clear L0 ko
  go_enter Tryd.func12, Tryd.ntmps12
  go_wp2_with fail
  refine (unhide Ko _).mono ?_
  rintro e w0 ⟨rfl, h0⟩
  have L0 : LSt w w.heap.size w0 Lt.zero.cells r0 := by rw [h0]; exact unhide HL0
  clear h0 HL0
  simp only [World.size_alloc]
  go_wp2_with fail
  refine (unhide k1 _ L0.rd).mono ?_
  rintro e w1 ⟨rfl, R, T⟩
  have M := L0.turn R T
  have f := M.frozen 0
  have c : w1.cell? ⟨w.heap.size + 1, 0, none⟩ = some (.int .u32 0) := M.cell 0
  have L1 := M.set (row' := #[.int .u32 (a1 : Int), .int .u32 0, .int .u32 0, .string (str []), .string (str []), .string (str [])]) 0 (.int .u32 (a1 : Int)) rfl
  clear L0 R T M k1
  go_wp2_with fail
  refine (unhide k2 _ L1.rd).mono ?_
  rintro e w2 ⟨rfl, R, T⟩
  have M := L1.turn R T
  have f := M.frozen 1
  have c : w2.cell? ⟨w.heap.size + 1, 1, none⟩ = some (.int .u32 0) := M.cell 1
  have L2 := M.set (row' := #[.int .u32 (a1 : Int), .int .u32 (a2 : Int), .int .u32 0, .string (str []), .string (str []), .string (str [])]) 1 (.int .u32 (a2 : Int)) rfl
  clear L1 R T M k2
  go_wp2_with fail
  refine (unhide k3 _ L2.rd).mono ?_
  rintro e w3 ⟨rfl, R, T⟩
  have M := L2.turn R T
  have f := M.frozen 2
  have c : w3.cell? ⟨w.heap.size + 1, 2, none⟩ = some (.int .u32 0) := M.cell 2
  have L3 := M.set (row' := #[.int .u32 (a1 : Int), .int .u32 (a2 : Int), .int .u32 (a3 : Int), .string (str []), .string (str []), .string (str [])]) 2 (.int .u32 (a3 : Int)) rfl
  clear L2 R T M k3
  go_wp2_with fail
  refine (unhide k4 _ L3.rd).mono ?_
  rintro e w4 ⟨rfl, R, T⟩
  have M := L3.turn R T
  have f := M.frozen 3
  have c : w4.cell? ⟨w.heap.size + 1, 3, none⟩ = some (.string (str [])) := M.cell 3
  have L4 := M.set (row' := #[.int .u32 (a1 : Int), .int .u32 (a2 : Int), .int .u32 (a3 : Int), .string (str a4), .string (str []), .string (str [])]) 3 (.string (str a4)) rfl
  clear L3 R T M k4
  go_wp2_with fail
  refine (unhide k5 _ L4.rd).mono ?_
  rintro e w5 ⟨rfl, R, T⟩
  have M := L4.turn R T
  have f := M.frozen 4
  have c : w5.cell? ⟨w.heap.size + 1, 4, none⟩ = some (.string (str [])) := M.cell 4
  have L5 := M.set (row' := #[.int .u32 (a1 : Int), .int .u32 (a2 : Int), .int .u32 (a3 : Int), .string (str a4), .string (str a5), .string (str [])]) 4 (.string (str a5)) rfl
  clear L4 R T M k5
  go_wp2_with fail
  refine (unhide k6 _ L5.rd).mono ?_
  rintro e w6 ⟨rfl, R, T⟩
  have M := L5.turn R T
  have f := M.frozen 5
  have c : w6.cell? ⟨w.heap.size + 1, 5, none⟩ = some (.string (str [])) := M.cell 5
  have L6 := M.set (row' := #[.int .u32 (a1 : Int), .int .u32 (a2 : Int), .int .u32 (a3 : Int), .string (str a4), .string (str a5), .string (str a6)]) 5 (.string (str a6)) rfl
  clear L5 R T M k6
  rw [unhide hcl] at L6
  go_wp2_with fail
  refine (unhide k7 _ L6.rd).mono ?_
  rintro e w7 ⟨rfl, rfl⟩
  have q0 := L6.res
  have q1 := L6.x
  have hb := L6.below
  clear k7 L6
  by_cases hE : E = 0
  · have hE' : (E != 0) = false := by simp [hE]
    have hc : ¬ E ≠ 0 := fun h => h hE
    have hA := unhide HA
    rw [if_neg hc] at hA
    have HB := hide hA
    clear hE hc hA HA
    go_wp2_with (refine wpList_load_row rfl 24 (.tmp 4) rfl (w.heap.size + 1) rfl 24 X.cells (0, 0) _ q1 Tryd.underlying24 rfl hil ?_)
    refine (unhide k8 _).mono ?_
    rintro e w8 ⟨rfl, b8⟩
    have q0' := Below.at b8 (Array.getElem?_eq_some_iff.1 q0).1 q0
    have q1' := Below.at b8 (Array.getElem?_eq_some_iff.1 q1).1 q1
    have hb' := hb.trans (b8.mono hb.size)
    clear q0 q1 hb b8
    cases R with
    | false =>
      have hA := unhide HB
      rw [if_neg (by simp)] at hA
      subst hA
      go_wp2_with (refine wpList_store_row rfl 24 (.tmp 2) (.tmp 36) rfl w.heap.size Lt.zero.cells rfl rfl 24 _ q0' hiz rfl hz ?_)
      exact bodyPost_ret (results_row_tmp rfl _ _ w.heap.size _ _ _ _ rfl (setRow_heap _ _ _ _ _ _ q0') Tryd.underlying24 rfl hiz) rfl ⟨rfl, below_setRow hb' (Nat.le_refl _) _⟩
    | true =>
      have hA := unhide HB
      rw [if_pos rfl] at hA
      subst hA
      go_wp2_with (first
        | (refine wpList_load_row rfl 24 (.tmp 4) rfl (w.heap.size + 1) rfl 24 X.cells (0, 0) _ q1' Tryd.underlying24 rfl hil ?_)
        | (refine wpList_store_row rfl 24 (.tmp 2) (.tmp 37) rfl w.heap.size X.cells rfl rfl 24 _ q0' hil hsl hol ?_))
      exact bodyPost_ret (results_row_tmp rfl _ _ w.heap.size _ _ _ _ rfl (setRow_heap _ _ _ _ _ _ q0') Tryd.underlying24 rfl hil) rfl ⟨rfl, below_setRow hb' (Nat.le_refl _) _⟩
  · have hE' : (E != 0) = true := by simp [hE]
    have hA := unhide HA
    rw [if_pos hE] at hA
    subst hA
    clear hE
    go_wp2_with (refine wpList_store_row rfl 24 (.tmp 2) (.tmp 31) rfl w.heap.size Lt.zero.cells rfl rfl 24 _ q0 hiz rfl hz ?_)
    exact bodyPost_ret (results_row_tmp rfl _ _ w.heap.size _ _ _ _ rfl (setRow_heap _ _ _ _ _ _ q0) Tryd.underlying24 rfl hiz) rfl ⟨rfl, below_setRow hb (Nat.le_refl _) _⟩
end Go.Proofs.YtaclnlmmkcjjeaaDoor

namespace Go.Proofs.YtaclnlmmkcjjeaaDoor
open Go Go.RowKit

theorem wpList_load_row_gd {P : Program} {ops : Array Oper} {rest : List Oper} {o : Oper} {a : Act} {w : World} {Q : Exit → Act → World → Prop} (hw : Region.wanted o (yielded ops a.tmps) = true) (ty : TypeId) (x : Operand) (ho : o.op = .load ty x)
    (g : Nat) (hx : a.eval x = .pointer (some ⟨g, 0, none⟩)) (t : TypeId) (cs : Array Value) (fr : Nat × Nat) (d : TypeDesc) (hg : w.heap[g]? = some (.cells cs t fr))
    (hu : P.underlying ty = some d) (hd : (match d with | .struct _ | .array _ _ => true | _ => false) = true) (hi : (P.info? ty).map (·.size) = some cs.size)
    (h : wpList P ops Q rest (a.put o.dst (.agg cs)) w) : wpList P ops Q (o :: rest) a w :=
  wpList_step fun K hK => by
    rw [if_pos hw]
    exact wp_load_row ty x ho g hx t cs fr d hg hu hd hi (hK _ _ h)
end Go.Proofs.YtaclnlmmkcjjeaaDoor

namespace Go.Proofs.YtaclnlmmkcjjeaaDoor
open Go.RowKit
set_option linter.unusedSimpArgs false
set_option linter.unusedVariables false

/-- Are all their fields the same? -/
def pLSame (x y : Lt) : Bool := if x.fr = y.fr then if x.no = y.no then if x.tt = y.tt then if x.se = y.se then if x.re = y.re then decide (x.bo = y.bo) else false else false else false else false else false
theorem pLSame_iff (x y : Lt) : pLSame x y = true ↔ x = y := by
  obtain ⟨a1, a2, a3, a4, a5, a6⟩ := x
  obtain ⟨b1, b2, b3, b4, b5, b6⟩ := y
  simp [pLSame]
set_option maxRecDepth 100000 in
theorem let_eql (x y : Lt) (w : World) : (binOp .eql 24 (.agg x.cells) (.agg y.cells)).run Tryd.prog w = .ok (.bool (pLSame x y)) w := by
  obtain ⟨a1, a2, a3, a4, a5, a6⟩ := x
  obtain ⟨b1, b2, b3, b4, b5, b6⟩ := y
  unfold pLSame Lt.cells
  simp only
  have s : ∀ l m : List UInt8, ((str l).toList = (str m).toList) = (l = m) := fun l m => by rw [ByteArray.toList_eq, ByteArray.toList_eq, str_toList, str_toList]
  by_cases h1 : a1 = b1
  · subst h1
    by_cases h2 : a2 = b2
    · subst h2
      by_cases h3 : a3 = b3
      · subst h3
        go_simp
        by_cases h4 : a4 = b4 <;> by_cases h5 : a5 = b5 <;> by_cases h6 : a6 = b6 <;> simp [h4, h5, h6]
      · have e3 : ((a3 : Int) == (b3 : Int)) = false := by simp; omega
        go_simp
    · have e2 : ((a2 : Int) == (b2 : Int)) = false := by simp; omega
      go_simp
  · have e1 : ((a1 : Int) == (b1 : Int)) = false := by simp; omega
    go_simp
set_option maxRecDepth 100000 in
theorem lsame_calls (x y : Lt) (w : World) :
    Calls Tryd.prog 9 #[.agg x.cells, .agg y.cells] w fun e w' => e = .returned (.bool (pLSame x y)) ∧ Below w.heap.size w w' := by
  have he := let_eql x y
  have hi := let_info x
  have hj := let_info y
  have q := al2 w (.cells x.cells 24) (.cells y.cells 24)
  have hb := bel2 w (.cells x.cells 24) (.cells y.cells 24)
  generalize pLSame x y = R at *
  generalize x.cells = C at *
  generalize y.cells = D at *
  obtain ⟨q1, q2⟩ := q
  go_enter Tryd.func9, Tryd.ntmps9
  go_wp2_with (first
    | (refine wpList_load_row rfl 24 (.tmp 2) rfl w.heap.size rfl 24 C (0, 0) _ q1 Tryd.underlying24 rfl hi ?_)
    | (refine wpList_load_row rfl 24 (.tmp 3) rfl (w.heap.size + 1) rfl 24 D (0, 0) _ q2 Tryd.underlying24 rfl hj ?_)
    | simp only [he])
  go_ret
  exact ⟨rfl, hb⟩
end Go.Proofs.YtaclnlmmkcjjeaaDoor

namespace Go.Proofs.YtaclnlmmkcjjeaaDoor
open Go.RowKit
set_option linter.unusedSimpArgs false
set_option linter.unusedVariables false

def exL : Lt := ⟨1, 0, 2, [97], [98], [99]⟩
theorem exL_right : exL.right = true := by decide +kernel
theorem zero_right : Lt.zero.right = false := by decide +kernel
theorem exL_ok : exL.ok := ⟨by decide, by decide, by decide⟩
theorem zero_ok : Lt.zero.ok := ⟨by decide, by decide, by decide⟩
set_option maxRecDepth 100000 in
theorem lawake_calls (w : World) :
    Calls Tryd.prog 4 #[] w fun e w' => e = .returned (.bool true) ∧ Below w.heap.size w w' := by
  have c1 := fun W => lbytes_calls exL exL_ok (by decide) (by decide) (by decide) W
  have c2 := fun W => lread_calls exL.bytes (by decide +kernel) W
  have c3 := fun W => lbytes_calls Lt.zero zero_ok (by decide) (by decide) (by decide) W
  have c4 := fun W => lsame_calls exL exL W
  rw [(pLSame_iff exL exL).2 rfl] at c4
  rw [letter_back exL exL_ok exL_right] at c2
  simp only [pLBytes, exL_right, zero_right, if_true, Bool.false_eq_true, if_false] at c1 c3
  have hi := let_info exL
  have ho := let_one exL
  have hsz : exL.cells.size = Lt.zero.cells.size := rfl
  have hiz := let_info Lt.zero
  generalize exL.bytes = B at *
  have C1 := hide c1
  have C2 := hide c2
  have C3 := hide c3
  have C4 := hide c4
  clear c1 c2 c3 c4
  have q0 := setRow_heap _ _ _ exL.cells _ _ (al1 w (.cells Lt.zero.cells 24))
  have hb0 := below_setRow ((Below.refl w.heap.size w).alloc (Nat.le_refl _) (.cells Lt.zero.cells 24)) (Nat.le_refl _) exL.cells
  have z0 : w.heap.size < ((w.alloc (.cells Lt.zero.cells 24)).setRow w.heap.size exL.cells).heap.size := by rw [setRow_size, World.size_alloc]; omega
  go_enter Tryd.func4, Tryd.ntmps4
  go_wp2_with (first
    | (refine wpList_store_row rfl 24 (.tmp 1) (.tmp 8) rfl w.heap.size exL.cells rfl rfl 24 _ (al1 w (.cells Lt.zero.cells 24)) hi hsz ho ?_)
    | (refine wpList_load_row rfl 24 (.tmp 1) rfl w.heap.size rfl 24 exL.cells (0, 0) _ q0 Tryd.underlying24 rfl hi ?_))
  refine (unhide C1 _).mono ?_
  rintro e w1 ⟨rfl, b1⟩
  have q1 := Below.at b1 z0 q0
  have hb1 := hb0.trans (b1.mono hb0.size)
  have z1 := Nat.lt_of_lt_of_le z0 b1.size
  clear q0 hb0 b1 z0
  go_wp2_with fail
  refine (unhide C2 _).mono ?_
  rintro e w2 ⟨rfl, b2⟩
  have q2 := Below.at b2 z1 q1
  have hb2 := hb1.trans (b2.mono hb1.size)
  have z2 := Nat.lt_of_lt_of_le z1 b2.size
  clear q1 hb1 b2 z1
  have qq := (setRow_other (w2.alloc (.cells Lt.zero.cells 24)) w2.heap.size w.heap.size exL.cells (by omega)).trans ((Below.heap_alloc w2 _ _ z2).trans q2)
  have qr := setRow_heap _ _ _ exL.cells _ _ (al1 w2 (.cells Lt.zero.cells 24))
  have hb3 := below_setRow (hb2.alloc (Nat.le_of_lt z2) (.cells Lt.zero.cells 24)) (Nat.le_of_lt z2) exL.cells
  have z3 : w2.heap.size < ((w2.alloc (.cells Lt.zero.cells 24)).setRow w2.heap.size exL.cells).heap.size := by rw [setRow_size, World.size_alloc]; omega
  go_wp2_with (refine wpList_store_row rfl 24 (.tmp 4) (.tmp 17) rfl w2.heap.size exL.cells rfl rfl 24 _ (al1 w2 (.cells Lt.zero.cells 24)) hi hsz ho ?_)
  refine (unhide C3 _).mono ?_
  rintro e w4 ⟨rfl, b4⟩
  have q4 : w4.heap[w.heap.size]? = some (.cells exL.cells 24 (0, 0)) := Below.at b4 (Nat.lt_trans z2 z3) qq
  have q5 : w4.heap[w2.heap.size]? = some (.cells exL.cells 24 (0, 0)) := Below.at b4 z3 qr
  have hb4 : Below w.heap.size w w4 := hb3.trans (b4.mono hb3.size)
  clear qq qr hb3 b4 z3 q2
  go_wp2_with (first
    | (refine wpList_load_row_gd rfl 24 (.tmp 1) rfl w.heap.size rfl 24 exL.cells (0, 0) _ q4 Tryd.underlying24 rfl hi ?_)
    | (refine wpList_load_row_gd rfl 24 (.tmp 4) rfl w2.heap.size rfl 24 exL.cells (0, 0) _ q5 Tryd.underlying24 rfl hi ?_))
  refine (unhide C4 _).mono ?_
  rintro e w5 ⟨rfl, b5⟩
  go_wp2
  go_ret
  exact ⟨rfl, hb4.trans (b5.mono hb4.size)⟩
set_option maxRecDepth 100000 in
theorem light_calls (x : Lt) (w : World) :
    Calls Tryd.prog 5 #[.agg x.cells] w fun e w' => e = .returned (.bool (if x.se.length ≤ 2000 then if x.re.length ≤ 2000 then decide (x.bo.length ≤ 2000) else false else false)) ∧ Below w.heap.size w w' := by
  obtain ⟨fr, no, tt, se, re, bo⟩ := x
  unfold Lt.cells
  simp only
  obtain ⟨R, hR⟩ : ∃ R, (if se.length ≤ 2000 then if re.length ≤ 2000 then decide (bo.length ≤ 2000) else false else false) = R := ⟨_, rfl⟩
  rw [hR]
  have HR := hide hR
  clear hR
  by_cases h1 : se.length ≤ 2000
  · by_cases h2 : re.length ≤ 2000
    · by_cases h3 : bo.length ≤ 2000
      · go_enter Tryd.func5, Tryd.ntmps5
        go_wp2
        go_ret
        exact ⟨by rw [← unhide HR]; simp [h1, h2, h3]; omega, (Below.refl _ _).alloc (Nat.le_refl _) _⟩
      · go_enter Tryd.func5, Tryd.ntmps5
        go_wp2
        go_ret
        exact ⟨by rw [← unhide HR]; simp [h1, h2, h3]; omega, (Below.refl _ _).alloc (Nat.le_refl _) _⟩
    · go_enter Tryd.func5, Tryd.ntmps5
      go_wp2
      go_ret
      exact ⟨by rw [← unhide HR]; simp [h1, h2], (Below.refl _ _).alloc (Nat.le_refl _) _⟩
  · go_enter Tryd.func5, Tryd.ntmps5
    go_wp2
    go_ret
    exact ⟨by rw [← unhide HR]; simp [h1], (Below.refl _ _).alloc (Nat.le_refl _) _⟩
end Go.Proofs.YtaclnlmmkcjjeaaDoor

namespace Go.Proofs.YtaclnlmmkcjjeaaDoor
open Go.RowKit

/-- A word turned to the left. -/
def rotl (x : BitVec 32) (s : Nat) : BitVec 32 := x <<< s ||| x >>> (32 - s)
/-- A word turned to the right. -/
def rotr (x : BitVec 32) (n : Nat) : BitVec 32 := rotl x (32 - n)
def pChoice (x y z : BitVec 32) : BitVec 32 := (x &&& y) ^^^ (~~~x &&& z)
def pMajority (x y z : BitVec 32) : BitVec 32 := ((x &&& y) ^^^ (x &&& z)) ^^^ (y &&& z)
def pBigZero (x : BitVec 32) : BitVec 32 := (rotr x 2 ^^^ rotr x 13) ^^^ rotr x 22
def pBigOne (x : BitVec 32) : BitVec 32 := (rotr x 6 ^^^ rotr x 11) ^^^ rotr x 25
def pSmallZero (x : BitVec 32) : BitVec 32 := (rotr x 7 ^^^ rotr x 18) ^^^ (x >>> 3)
def pSmallOne (x : BitVec 32) : BitVec 32 := (rotr x 17 ^^^ rotr x 19) ^^^ (x >>> 10)

set_option maxHeartbeats 400000 in
theorem rotateLeft_calls (x : BitVec 32) (k : Int) (s : Nat) (hs : bits BinOp.and IntKind.u64 (IntKind.u64.wrap k) 31 = (s:Int)) (h: s < 32) (w : World) :
    Calls Tryd.prog 70 #[.int .u32 x.toNat, .int .i64 k] w fun e w' => e = .returned (.int .u32 (rotl x s).toNat) ∧ w' = w := by
  go_enter Tryd.func70, Tryd.ntmps70
  go_wp2
  go_ret
  refine ⟨?_, rfl⟩
  show Ending.returned (.int .u32 (bits BinOp.or IntKind.u32 (↑x.toNat * 2 ^ s % 4294967296) (↑x.toNat / 2 ^ (32 - s)))) = _
  rw [b_shl, b_shr, b_or]; rfl

set_option maxHeartbeats 400000 in
theorem turn_calls (x : BitVec 32) (n : Int) (h0 : 0 < n) (h : n < 32) (w : World) :
    Calls Tryd.prog 69 #[.int .u32 x.toNat, .int .i64 n] w fun e w' => e = .returned (.int .u32 (rotr x n.toNat).toNat) ∧ w' = w := by
  obtain ⟨m, rfl⟩ := Int.eq_ofNat_of_zero_le (Int.le_of_lt h0)
  have ht := hide (b_turns m (by omega) (by omega))
  go_enter Tryd.func69, Tryd.ntmps69
  go_wp2_with (go_at_call 70; refine (rotateLeft_calls x _ (32 - m) (unhide ht) (by omega) _).mono ?_; rintro e w' ⟨rfl, rfl⟩)
  go_ret
  exact ⟨rfl, rfl⟩

set_option maxHeartbeats 400000 in
theorem choice_calls (x y z : BitVec 32) (w : World) :
    Calls Tryd.prog 63 #[.int .u32 x.toNat, .int .u32 y.toNat, .int .u32 z.toNat] w fun e w' => e = .returned (.int .u32 (pChoice x y z).toNat) ∧ w' = w := by
  go_enter Tryd.func63, Tryd.ntmps63
  go_wp2
  go_ret
  refine ⟨?_, rfl⟩
  · show Ending.returned (.int .u32 (bits BinOp.xor IntKind.u32 (bits BinOp.and IntKind.u32 ↑x.toNat ↑y.toNat) (bits BinOp.and IntKind.u32 (bits BinOp.xor IntKind.u32 IntKind.u32.max ↑x.toNat) ↑z.toNat))) = _
    rw [b_not, b_and, b_and, b_xor]; rfl

set_option maxHeartbeats 400000 in
theorem majority_calls (x y z : BitVec 32) (w : World) :
    Calls Tryd.prog 65 #[.int .u32 x.toNat, .int .u32 y.toNat, .int .u32 z.toNat] w fun e w' => e = .returned (.int .u32 (pMajority x y z).toNat) ∧ w' = w := by
  go_enter Tryd.func65, Tryd.ntmps65
  go_wp2
  go_ret
  refine ⟨?_, rfl⟩
  show Ending.returned (.int .u32 (bits BinOp.xor IntKind.u32 (bits BinOp.xor IntKind.u32 (bits BinOp.and IntKind.u32 ↑x.toNat ↑y.toNat) (bits BinOp.and IntKind.u32 ↑x.toNat ↑z.toNat)) (bits BinOp.and IntKind.u32 ↑y.toNat ↑z.toNat))) = _
  rw [b_and, b_and, b_and, b_xor, b_xor]; rfl

set_option maxHeartbeats 400000 in
theorem bigZero_calls (x : BitVec 32) (w : World) :
    Calls Tryd.prog 64 #[.int .u32 x.toNat] w fun e w' => e = .returned (.int .u32 (pBigZero x).toNat) ∧ w' = w := by
  go_enter Tryd.func64, Tryd.ntmps64
  go_wp2_with (go_at_call 69; refine (turn_calls _ _ (by omega) (by omega) _).mono ?_; rintro e w' ⟨rfl, rfl⟩)
  go_ret
  refine ⟨?_, rfl⟩
  show Ending.returned (.int .u32 (bits BinOp.xor IntKind.u32 (bits BinOp.xor IntKind.u32 ↑(rotr x 2).toNat ↑(rotr x 13).toNat) ↑(rotr x 22).toNat)) = _
  rw [b_xor, b_xor]; rfl

set_option maxHeartbeats 400000 in
theorem bigOne_calls (x : BitVec 32) (w : World) :
    Calls Tryd.prog 62 #[.int .u32 x.toNat] w fun e w' => e = .returned (.int .u32 (pBigOne x).toNat) ∧ w' = w := by
  go_enter Tryd.func62, Tryd.ntmps62
  go_wp2_with (go_at_call 69; refine (turn_calls _ _ (by omega) (by omega) _).mono ?_; rintro e w' ⟨rfl, rfl⟩)
  go_ret
  refine ⟨?_, rfl⟩
  show Ending.returned (.int .u32 (bits BinOp.xor IntKind.u32 (bits BinOp.xor IntKind.u32 ↑(rotr x 6).toNat ↑(rotr x 11).toNat) ↑(rotr x 25).toNat)) = _
  rw [b_xor, b_xor]; rfl

set_option maxHeartbeats 400000 in
theorem smallZero_calls (x : BitVec 32) (w : World) :
    Calls Tryd.prog 68 #[.int .u32 x.toNat] w fun e w' => e = .returned (.int .u32 (pSmallZero x).toNat) ∧ w' = w := by
  go_enter Tryd.func68, Tryd.ntmps68
  go_wp2_with (go_at_call 69; refine (turn_calls _ _ (by omega) (by omega) _).mono ?_; rintro e w' ⟨rfl, rfl⟩)
  go_ret
  refine ⟨?_, rfl⟩
  show Ending.returned (.int .u32 (bits BinOp.xor IntKind.u32 (bits BinOp.xor IntKind.u32 ↑(rotr x 7).toNat ↑(rotr x 18).toNat) ((x.toNat : Int) / 8))) = _
  rw [show (x.toNat : Int) / (8 : Int) = ((x >>> 3).toNat : Int) from b_shr x 3]
  rw [b_xor, b_xor]; rfl

set_option maxHeartbeats 400000 in
theorem smallOne_calls (x : BitVec 32) (w : World) :
    Calls Tryd.prog 67 #[.int .u32 x.toNat] w fun e w' => e = .returned (.int .u32 (pSmallOne x).toNat) ∧ w' = w := by
  go_enter Tryd.func67, Tryd.ntmps67
  go_wp2_with (go_at_call 69; refine (turn_calls _ _ (by omega) (by omega) _).mono ?_; rintro e w' ⟨rfl, rfl⟩)
  go_ret
  refine ⟨?_, rfl⟩
  show Ending.returned (.int .u32 (bits BinOp.xor IntKind.u32 (bits BinOp.xor IntKind.u32 ↑(rotr x 17).toNat ↑(rotr x 19).toNat) ((x.toNat : Int) / 1024))) = _
  rw [show (x.toNat : Int) / (1024 : Int) = ((x >>> 10).toNat : Int) from b_shr x 10]
  rw [b_xor, b_xor]; rfl

end Go.Proofs.YtaclnlmmkcjjeaaDoor

namespace Go.Proofs.YtaclnlmmkcjjeaaDoor
open Go.RowKit

/-- Four bytes as a word, the highest first. -/
def word (a b c d : UInt8) : BitVec 32 := BitVec.ofNat 32 (a.toNat * 16777216 + b.toNat * 65536 + c.toNat * 256 + d.toNat)
/-- The word at a place of a text. -/
def wAt (l : List UInt8) (k : Nat) : BitVec 32 := word (l.getD k 0) (l.getD (k + 1) 0) (l.getD (k + 2) 0) (l.getD (k + 3) 0)
def sched16 (l : List UInt8) (n : Nat) : List (BitVec 32) := (List.range n).map fun i => wAt l (4 * i)
def schedNext (ws : List (BitVec 32)) : BitVec 32 := addw (addw (addw (pSmallOne (ws.getD (ws.length - 2) 0)) (ws.getD (ws.length - 7) 0)) (pSmallZero (ws.getD (ws.length - 15) 0))) (ws.getD (ws.length - 16) 0)
def schedN (l : List UInt8) : Nat → List (BitVec 32)
  | 0 => sched16 l 16
  | k + 1 => schedN l k ++ [schedNext (schedN l k)]
def sched (l : List UInt8) : List (BitVec 32) := schedN l 48

theorem sched16_length (l : List UInt8) (n : Nat) : (sched16 l n).length = n := by simp [sched16]
theorem schedN_length (l : List UInt8) (k : Nat) : (schedN l k).length = 16 + k := by
  induction k with
  | zero => simp [schedN, sched16]
  | succ k ih => simp [schedN, ih]; omega
theorem sched_length (l : List UInt8) : (sched l).length = 64 := schedN_length l 48
theorem sched16_succ (l : List UInt8) (n : Nat) : sched16 l (n + 1) = sched16 l n ++ [wAt l (4 * n)] := by simp [sched16, List.range_succ]

/-- Words as cells of memory. -/
def wc (ws : List (BitVec 32)) : Array Value := (ws.map fun x => Value.int .u32 (x.toNat : Int)).toArray
@[simp] theorem wc_size (ws : List (BitVec 32)) : (wc ws).size = ws.length := by simp [wc]
theorem wc_at (ws : List (BitVec 32)) (j : Nat) (h : j < ws.length) : (wc ws)[j]? = some (.int .u32 ((ws.getD j 0).toNat : Int)) := by
  simp [wc, h]
theorem wc_set (ws zs : List (BitVec 32)) (z x : BitVec 32) (i : Nat) (hi : i = ws.length) : (wc (ws ++ z :: zs)).setIfInBounds i (.int .u32 (x.toNat : Int)) = wc (ws ++ [x] ++ zs) := by
  subst hi
  simp only [wc, List.map_append, List.map_cons, List.setIfInBounds_toArray, List.append_assoc, List.cons_append, List.nil_append]
  congr 1
  rw [List.set_append_right _ _ (by simp)]
  simp
theorem wc_oneCell (ws : List (BitVec 32)) : (wc ws).all (·.oneCell') = true := by
  simp [wc, Value.oneCell']

theorem word_lt (a b c d : UInt8) : a.toNat * 16777216 + b.toNat * 65536 + c.toNat * 256 + d.toNat < 4294967296 := by
  have := a.toNat_lt; have := b.toNat_lt; have := c.toNat_lt; have := d.toNat_lt; omega
theorem word_toNat (a b c d : UInt8) : (word a b c d).toNat = a.toNat * 16777216 + b.toNat * 65536 + c.toNat * 256 + d.toNat := by
  have := word_lt a b c d
  simp only [word, BitVec.toNat_ofNat]; omega
/-- The word as the code's shifts and ors lay it. -/
theorem word_or (a b c d : UInt8) : bits BinOp.or IntKind.u32 (bits BinOp.or IntKind.u32 (bits BinOp.or IntKind.u32 ((a.toNat : Int) % 4294967296 * 16777216 % 4294967296) ((b.toNat : Int) % 4294967296 * 65536 % 4294967296)) ((c.toNat : Int) % 4294967296 * 256 % 4294967296)) ((d.toNat : Int) % 4294967296) = ((word a b c d).toNat : Int) := by
  have ha := a.toNat_lt; have hb := b.toNat_lt; have hc := c.toNat_lt; have hd := d.toNat_lt
  have e1 : (a.toNat : Int) % 4294967296 * 16777216 % 4294967296 = ((a.toNat * 16777216 : Nat) : Int) := by omega
  have e2 : (b.toNat : Int) % 4294967296 * 65536 % 4294967296 = ((b.toNat * 65536 : Nat) : Int) := by omega
  have e3 : (c.toNat : Int) % 4294967296 * 256 % 4294967296 = ((c.toNat * 256 : Nat) : Int) := by omega
  have e4 : (d.toNat : Int) % 4294967296 = ((d.toNat : Nat) : Int) := by omega
  have j1 : a.toNat * 16777216 ||| b.toNat * 65536 = a.toNat * 16777216 + b.toNat * 65536 := nat_join 24 _ _ (by omega) (by omega)
  have j2 : a.toNat * 16777216 + b.toNat * 65536 ||| c.toNat * 256 = a.toNat * 16777216 + b.toNat * 65536 + c.toNat * 256 := nat_join 16 _ _ (by omega) (by omega)
  have j3 : a.toNat * 16777216 + b.toNat * 65536 + c.toNat * 256 ||| d.toNat = a.toNat * 16777216 + b.toNat * 65536 + c.toNat * 256 + d.toNat := nat_join 8 _ _ (by omega) (by omega)
  rw [e1, e2, e3, e4, u32_or_nat _ _ (by omega) (by omega), j1, u32_or_nat _ _ (by omega) (by omega), j2, u32_or_nat _ _ (by omega) (by omega), j3, word_toNat]

end Go.Proofs.YtaclnlmmkcjjeaaDoor

namespace Go.Proofs.YtaclnlmmkcjjeaaDoor
open Go.RowKit
set_option linter.unusedSimpArgs false
set_option linter.unusedVariables false

set_option maxHeartbeats 400000 in
theorem wordAt_calls (s : ByteArray) (k : Int) (h0 : 0 ≤ k) (h : k + 3 < s.size) (hs : s.size ≤ maxLen) (w : World) :
    Calls Tryd.prog 66 #[.string s, .int .i64 k] w fun e w' => e = .returned (.int .u32 (wAt s.data.toList k.toNat).toNat) ∧ ∃ n, w' = w.drewN n := by
  obtain ⟨k, rfl⟩ := Int.eq_ofNat_of_zero_le h0
  unfold maxLen at hs
  have h0 : (k : Int) < s.size := by omega
  have h1 : (0:Int) ≤ k + 1 ∧ (k : Int) + 1 < s.size := by omega
  have h2 : (0:Int) ≤ k + 2 ∧ (k : Int) + 2 < s.size := by omega
  have h3 : (0:Int) ≤ k + 3 ∧ (k : Int) + 3 < s.size := by omega
  have w1 := wi64 (k + 1) (by omega) (by omega)
  have w2 := wi64 (k + 2) (by omega) (by omega)
  have w3 := wi64 (k + 3) (by omega) (by omega)
  go_enter Tryd.func66, Tryd.ntmps66
  go_wp2
  go_quiet (fail)
  go_wp2
  go_ret
  refine ⟨?_, _, rfl⟩
  have e := word_or s[k] s[k + 1] s[k + 2] s[k + 3]
  refine Eq.trans (congrArg (fun x => Ending.returned (.int .u32 x)) e) ?_
  rw [byte_at s k (by omega), byte_at s (k + 1) (by omega), byte_at s (k + 2) (by omega), byte_at s (k + 3) (by omega)]
  rfl

theorem row_set (w : World) (g : Nat) (ws zs : List (BitVec 32)) (z x : BitVec 32) (i : Nat) (t : TypeId) (n : Nat) (hg : w.heap[g]? = some (.cells (wc (ws ++ z :: zs)) t (0, 0))) (hi : i = ws.length) :
    ((w.drewN n).setCell ⟨g, i, none⟩ (.int .u32 (x.toNat : Int))).heap[g]? = some (.cells (wc (ws ++ [x] ++ zs)) t (0, 0)) := by
  rw [heap_setCell_same (w.drewN n) g i _ t _ hg, wc_set ws zs z x i hi]
theorem row_other (w : World) (a : Addr) (k n : Nat) (v : Value) (o : Option Obj) (hg : w.heap[k]? = o) (h : k ≠ a.block) : ((w.drewN n).setCell a v).heap[k]? = o := by
  rw [heap_setCell_other (w.drewN n) a k v h]; exact hg

set_option maxHeartbeats 1000000 in
set_option maxRecDepth 100000 in
theorem schedule_calls (s : ByteArray) (hs : s.size = 64) (w : World) :
    Calls Tryd.prog 61 #[.string s] w fun e w' => e = .returned (.agg (wc (sched s.data.toList))) ∧ Below w.heap.size w w' := by
  go_enter Tryd.func61, Tryd.ntmps61
  go_wp2
  go_loopw [4, 6] (fun _ i wr => ∃ k : Nat, k ≤ 16 ∧ i = .int .i64 k ∧ Below w.heap.size w wr ∧ wr.heap.size = w.heap.size + 2 ∧ wr.heap[w.heap.size + 1]? = some (.cells (wc (sched16 s.data.toList k ++ List.replicate (64 - k) 0)) 102 (0, 0)) ∧ wr.heap[w.heap.size]? = some (.cells (wc (List.replicate 64 0)) 102 (0, 0))) (fun _ i _ => 16 - (intOf i).toNat)
  case atStart =>
    exact ⟨0, by omega, rfl, ((Below.refl _ _).alloc (Nat.le_refl _) _).alloc (by simp) _, by simp, heap_alloc2_new _ _ _, heap_alloc2_old _ _ _⟩
  case round =>
    obtain ⟨k, hk, rfl, hb, hz, hc, hr⟩ := hrel
    by_cases hlt : k < 16
    · have hlen : (sched16 s.data.toList k ++ List.replicate (64 - k) (0 : BitVec 32)).length = 64 := by simp [sched16_length]; omega
      have hcell : wr.cell? ⟨w.heap.size + 1, k, none⟩ = some (.int .u32 (((sched16 s.data.toList k ++ List.replicate (64 - k) (0 : BitVec 32)).getD k 0).toNat : Int)) := by
        rw [cell_of_row _ _ _ _ _ _ hc]; exact wc_at _ _ (by rw [hlen]; omega)
      have hfz : wr.frozen? ⟨w.heap.size + 1, k, none⟩ = false := frozen_of_row _ _ _ _ _ hc
      go_wp2_with (go_at_call 66; refine (wordAt_calls _ _ (by omega) (by omega) (by unfold maxLen; omega) _).mono ?_; rintro e w1 ⟨rfl, n1, rfl⟩)
      go_roundw
      case rel =>
        refine ⟨k + 1, by omega, by go_num, ?_, ?_, ?_, ?_⟩
        · exact (below_drewN hb _).setCell (by simp) _
        · simpa using hz
        · have e : List.replicate (64 - k) (0 : BitVec 32) = 0 :: List.replicate (64 - (k + 1)) 0 := by rw [show 64 - k = (64 - (k + 1)) + 1 by omega]; rfl
          rw [e] at hc
          rw [sched16_succ]
          exact row_set _ _ _ _ _ _ _ _ _ hc (sched16_length _ _).symm
        · exact row_other _ _ _ _ _ _ hr (by simp)
      case measure => simp [intOf]; omega
    · have hc' : wr.heap[w.heap.size + 1]? = some (.cells (wc (schedN s.data.toList 0 ++ List.replicate (48 - 0) 0)) 102 (0, 0)) := by
        rw [hc, show k = 16 by omega]; rfl
      have hd : decide ((k : Int) < 16) = false := by simp; omega
      clear hc
      go_wp2
      go_loopw [5] (fun i wr => ∃ k : Nat, k ≤ 48 ∧ i = .int .i64 (16 + k : Nat) ∧ Below w.heap.size w wr ∧ wr.heap.size = w.heap.size + 2 ∧ wr.heap[w.heap.size + 1]? = some (.cells (wc (schedN s.data.toList k ++ List.replicate (48 - k) 0)) 102 (0, 0)) ∧ wr.heap[w.heap.size]? = some (.cells (wc (List.replicate 64 0)) 102 (0, 0))) (fun i _ => 64 - (intOf i).toNat)
      case atStart => exact ⟨0, by omega, rfl, hb, hz, hc', hr⟩
      case round =>
        clear hb hz hr hc'
        obtain ⟨k, hk, rfl, hb, hz, hc, hr⟩ := hrel
        by_cases hlt : k < 48
        · generalize hn : 16 + k = n
          have hlen : (schedN s.data.toList k ++ List.replicate (48 - k) (0 : BitVec 32)).length = 64 := by simp [schedN_length]; omega
          have hcell : ∀ j, j < 64 → wr.cell? ⟨w.heap.size + 1, j, none⟩ = some (.int .u32 (((schedN s.data.toList k ++ List.replicate (48 - k) (0 : BitVec 32)).getD j 0).toNat : Int)) := fun j hj => by
            rw [cell_of_row _ _ _ _ _ _ hc]; exact wc_at _ _ (by rw [hlen]; omega)
          have hget : ∀ j, j < n → ∃ x : BitVec 32, Hid ((schedN s.data.toList k).getD j 0 = x) ∧ wr.cell? ⟨w.heap.size + 1, j, none⟩ = some (.int .u32 (x.toNat : Int)) := fun j hj =>
            ⟨_, rfl, by rw [hcell j (by omega), List.getD_eq_getElem?_getD, List.getElem?_append_left (by rw [schedN_length]; omega), ← List.getD_eq_getElem?_getD]⟩
          have hfz : wr.frozen? ⟨w.heap.size + 1, n, none⟩ = false := frozen_of_row _ _ _ _ _ hc
          have c0 := hcell n (by omega)
          obtain ⟨x2, e2, c2⟩ := hget (n - 2) (by omega)
          obtain ⟨x7, e7, c7⟩ := hget (n - 7) (by omega)
          obtain ⟨x15, e15, c15⟩ := hget (n - 15) (by omega)
          obtain ⟨x16, e16, c16⟩ := hget (n - 16) (by omega)
          have am := a_mod
          have aw := a_wrap
          have b0 : (0:Int) ≤ n ∧ (n : Int) < 64 := by omega
          have b2 : (2:Int) ≤ n ∧ (n : Int) - 2 < 64 := by omega
          have t2 : ((n : Int) - 2).toNat = n - 2 := by omega
          have b7 : (7:Int) ≤ n ∧ (n : Int) - 7 < 64 := by omega
          have t7 : ((n : Int) - 7).toNat = n - 7 := by omega
          have b15 : (15:Int) ≤ n ∧ (n : Int) - 15 < 64 := by omega
          have t15 : ((n : Int) - 15).toNat = n - 15 := by omega
          have b16 : (16:Int) ≤ n ∧ (n : Int) - 16 < 64 := by omega
          have t16 : ((n : Int) - 16).toNat = n - 16 := by omega
          have w2 := wi64 (n - 2) (by omega) (by omega)
          have w7 := wi64 (n - 7) (by omega) (by omega)
          have w15 := wi64 (n - 15) (by omega) (by omega)
          have w16 := wi64 (n - 16) (by omega) (by omega)
          have Hn := hide hn
          clear hn hcell hget
          go_wp2
          refine wp_region_still_tail 23 mixed (by kernel_rfl) ?_
          simp only [List.take_succ_cons, List.take_zero, List.drop_succ_cons, List.drop_zero]
          iterate 5 still_step
          still_call (smallOne_calls _ _)
          iterate 9 still_step
          still_call (smallZero_calls _ _)
          iterate 7 still_step
          refine wpStill_nil ?_
          go_wp2
          go_roundw
          case rel =>
            have hn := unhide Hn
            have hx : schedNext (schedN s.data.toList k) = addw (addw (addw (pSmallOne x2) x7) (pSmallZero x15)) x16 := by
              unfold schedNext; rw [schedN_length, hn, unhide e2, unhide e7, unhide e15, unhide e16]
            refine ⟨k + 1, by omega, by rw [← hn]; go_num, ?_, ?_, ?_, ?_⟩
            · exact (hb.setCell (by simp) _).drew
            · simpa using hz
            · have e : List.replicate (48 - k) (0 : BitVec 32) = 0 :: List.replicate (48 - (k + 1)) 0 := by rw [show 48 - k = (48 - (k + 1)) + 1 by omega]; rfl
              rw [e] at hc
              rw [← hx]
              exact row_set wr _ _ _ _ _ _ _ 0 hc (by rw [schedN_length]; omega)
            · exact row_other wr _ _ 0 _ _ hr (by simp)
          case measure => simp [intOf]; omega
        · obtain rfl : k = 48 := by omega
          have hc' : wr.heap[w.heap.size + 1]? = some (.cells (wc (sched s.data.toList)) 102 (0, 0)) := by simpa [sched] using hc
          have hi : (Tryd.prog.info? 102).map (·.size) = some (wc (sched s.data.toList)).size := by rw [wc_size, sched_length]; kernel_rfl
          clear hc
          have hold : (wc (List.replicate 64 (0 : BitVec 32))).size = (wc (sched s.data.toList)).size := by simp [sched_length]
          go_wp2_with (first
            | (refine wpList_load_row rfl 102 (.tmp 3) rfl (w.heap.size + 1) rfl 102 _ (0, 0) _ hc' Tryd.underlying102 rfl hi ?_)
            | (refine wpList_store_row rfl 102 (.tmp 2) (.tmp 43) rfl w.heap.size _ rfl rfl 102 _ hr hi hold (wc_oneCell _) ?_))
          exact bodyPost_ret (results_cell_row rfl _ _ w.heap.size _ _ _ _ rfl (setRow_heap _ _ _ _ _ _ hr) Tryd.underlying102 rfl hi) rfl ⟨rfl, below_setRow hb (Nat.le_refl _) _⟩
end Go.Proofs.YtaclnlmmkcjjeaaDoor

namespace Go.Proofs.YtaclnlmmkcjjeaaDoor
open Go.RowKit
set_option linter.unusedSimpArgs false

/-- The standard's constants. -/
def kWords : List (BitVec 32) := [1116352408, 1899447441, 3049323471, 3921009573, 961987163, 1508970993, 2453635748, 2870763221, 3624381080, 310598401, 607225278, 1426881987, 1925078388, 2162078206, 2614888103, 3248222580, 3835390401, 4022224774, 264347078, 604807628, 770255983, 1249150122, 1555081692, 1996064986, 2554220882, 2821834349, 2952996808, 3210313671, 3336571891, 3584528711, 113926993, 338241895, 666307205, 773529912, 1294757372, 1396182291, 1695183700, 1986661051, 2177026350, 2456956037, 2730485921, 2820302411, 3259730800, 3345764771, 3516065817, 3600352804, 4094571909, 275423344, 430227734, 506948616, 659060556, 883997877, 958139571, 1322822218, 1537002063, 1747873779, 1955562222, 2024104815, 2227730452, 2361852424, 2428436474, 2756734187, 3204031479, 3329325298]
/-- The first state. -/
def hWords : List (BitVec 32) := [1779033703, 3144134277, 1013904242, 2773480762, 1359893119, 2600822924, 528734635, 1541459225]

/-- Eight words. -/
structure S8 where
  (a b c d e f g h : BitVec 32)
def S8.list (s : S8) : List (BitVec 32) := [s.a, s.b, s.c, s.d, s.e, s.f, s.g, s.h]
def S8.cells (s : S8) : Array Value := wc s.list
def pOne (k w : BitVec 32) (s : S8) : BitVec 32 := addw (addw (addw (addw s.h (pBigOne s.e)) (pChoice s.e s.f s.g)) k) w
def pTwo (s : S8) : BitVec 32 := addw (pBigZero s.a) (pMajority s.a s.b s.c)
def pRound (k w : BitVec 32) (s : S8) : S8 := ⟨addw (pOne k w s) (pTwo s), s.a, s.b, s.c, addw s.d (pOne k w s), s.e, s.f, s.g⟩
def pRounds (ws : List (BitVec 32)) (s : S8) : Nat → S8
  | 0 => s
  | k + 1 => pRound (kWords.getD k 0) (ws.getD k 0) (pRounds ws s k)
def S8.add (s t : S8) : S8 := ⟨addw s.a t.a, addw s.b t.b, addw s.c t.c, addw s.d t.d, addw s.e t.e, addw s.f t.f, addw s.g t.g, addw s.h t.h⟩
/-- The words behind a block of 64 bytes; of another length as they are. -/
def pBlock (s : S8) (l : List UInt8) : S8 := if l.length = 64 then s.add (pRounds (sched l) s 64) else s
theorem S8.list_length (s : S8) : s.list.length = 8 := rfl
theorem S8.ext' {s t : S8} (h : s.list = t.list) : s = t := by
  cases s; cases t; simp_all [S8.list]
theorem S8.add_list (s t : S8) : (s.add t).list = List.zipWith addw s.list t.list := rfl
/-- Words of which the first k have been added to. -/
def addTo (x y : List (BitVec 32)) (k : Nat) : List (BitVec 32) := (List.zipWith addw x y).take k ++ x.drop k
theorem addTo_zero (x y : List (BitVec 32)) : addTo x y 0 = x := by simp [addTo]
theorem addTo_all (x y : List (BitVec 32)) (k : Nat) (h : k = x.length) (h' : y.length = x.length) : addTo x y k = List.zipWith addw x y := by
  subst h; simp [addTo]; exact List.take_of_length_le (by simp [h'])
theorem addTo_length (x y : List (BitVec 32)) (k : Nat) (h : k ≤ x.length) (h' : y.length = x.length) : (addTo x y k).length = x.length := by
  simp [addTo, h']; omega
theorem addTo_get (x y : List (BitVec 32)) (k : Nat) (h : k < x.length) (h' : y.length = x.length) : (addTo x y k).getD k 0 = x.getD k 0 := by
  have hl : ((List.zipWith addw x y).take k).length = k := by simp [h']; omega
  rw [addTo, List.getD_eq_getElem?_getD, List.getElem?_append_right (by omega), hl, List.getElem?_drop, List.getD_eq_getElem?_getD]
  simp
theorem addTo_set (x y : List (BitVec 32)) (k : Nat) (h : k < x.length) (h' : y.length = x.length) :
    (wc (addTo x y k)).setIfInBounds k (.int .u32 ((addw (x.getD k 0) (y.getD k 0)).toNat : Int)) = wc (addTo x y (k + 1)) := by
  have hl : ((List.zipWith addw x y).take k).length = k := by simp [h']; omega
  have hd : x.drop k = x.getD k 0 :: x.drop (k + 1) := by
    rw [List.drop_eq_getElem_cons h, List.getD_eq_getElem?_getD]; simp [h]
  have ht : (List.zipWith addw x y).take (k + 1) = (List.zipWith addw x y).take k ++ [addw (x.getD k 0) (y.getD k 0)] := by
    rw [List.take_succ_eq_append_getElem (by simp [h']; omega)]
    simp [h, show k < y.length by omega]
  unfold addTo
  rw [hd, wc_set _ _ _ _ _ hl.symm, ht]

end Go.Proofs.YtaclnlmmkcjjeaaDoor

namespace Go.Proofs.YtaclnlmmkcjjeaaDoor
open Go.RowKit
set_option linter.unusedSimpArgs false
set_option linter.unusedVariables false

/-- The two tables of package sha lie in memory as its text lays them. -/
structure Tabs (w : World) : Prop where
  size : 0 < w.heap.size ∧ 1 < w.heap.size
  k : ∀ j, j < 64 → w.cell? ⟨1, j, none⟩ = some (.int .u32 ((kWords.getD j 0).toNat : Int))
  h : ∀ j, j < 8 → w.cell? ⟨0, j, none⟩ = some (.int .u32 ((hWords.getD j 0).toNat : Int))
theorem Tabs.below {B : Nat} {w w' : World} (t : Tabs w) (hb : Below B w w') (hB : w.heap.size ≤ B) : Tabs w' := by
  obtain ⟨s, k, h⟩ := t
  refine ⟨⟨Nat.lt_of_lt_of_le s.1 hb.size, Nat.lt_of_lt_of_le s.2 hb.size⟩, fun j hj => ?_, fun j hj => ?_⟩
  · rw [hb.cell (by show 1 < B; omega)]; exact k j hj
  · rw [hb.cell (by show 0 < B; omega)]; exact h j hj

theorem u8w : (Tryd.prog.info? 22).map (·.size) = some 1 := by kernel_rfl
theorem keyw : Tryd.prog.plainKey 22 = true := by kernel_rfl
theorem index64 (ws : List (BitVec 32)) (h : ws.length = 64) (k : Nat) (hk : k < 64) (w : World) : (Instr.index 102 (.agg (wc ws)) (.int .i64 (k : Int))).run Tryd.prog w = .ok (.int .u32 ((ws.getD k 0).toNat : Int)) w :=
  run_index_row 102 22 64 _ k _ Tryd.underlying102 keyw u8w hk (wc_at ws k (by omega)) w
theorem index8 (ws : List (BitVec 32)) (h : ws.length = 8) (k : Nat) (hk : k < 8) (w : World) : (Instr.index 68 (.agg (wc ws)) (.int .i64 (k : Int))).run Tryd.prog w = .ok (.int .u32 ((ws.getD k 0).toNat : Int)) w :=
  run_index_row 68 22 8 _ k _ Tryd.underlying68 keyw u8w hk (wc_at ws k (by omega)) w

set_option maxHeartbeats 400000 in
set_option maxRecDepth 100000 in
theorem block_other (st : S8) (s : ByteArray) (hs : s.size ≠ 64) (hm : s.size ≤ maxLen) (w : World) :
    Calls Tryd.prog 59 #[.agg st.cells, .string s] w fun e w' => e = .returned (.agg st.cells) ∧ Below w.heap.size w w' := by
  have hne : ((s.size : Int) != 64) = true := by simp; omega
  obtain ⟨a, b, c, d, e, f, g, h⟩ := st
  simp only [S8.cells, S8.list, wc, List.map]
  go_enter Tryd.func59, Tryd.ntmps59
  go_wp2
  exact bodyPost_ret (results_cell_row rfl _ _ (w.heap.size + 1) _ _ _ _ rfl (heap_alloc2_new _ _ _) Tryd.underlying68 rfl (by kernel_rfl)) rfl ⟨rfl, ((Below.refl _ _).alloc (Nat.le_refl _) _).alloc (by simp) _⟩

set_option maxHeartbeats 400000 in
set_option maxRecDepth 100000 in
theorem block_calls (st : S8) (s : ByteArray) (hs : s.size = 64) (w : World) (tabs : Tabs w) :
    Calls Tryd.prog 59 #[.agg st.cells, .string s] w fun e w' => e = .returned (.agg (pBlock st s.data.toList).cells) ∧ Below w.heap.size w w' := by
  have hne : ((s.size : Int) != 64) = false := by simp; omega
  obtain ⟨a, b, c, d, e, f, g, h⟩ := st
  simp only [S8.cells, S8.list, wc, List.map]
  go_enter Tryd.func59, Tryd.ntmps59
  go_wp2_with (go_at_call 61; refine (schedule_calls s hs _).mono ?_; rintro e w1 ⟨rfl, hb1⟩)
  have hB : w.heap.size + 1 + 1 + 1 ≤ w1.heap.size := by have := hb1.size; simpa using this
  have q0 : w1.heap[w.heap.size]? = some (.cells (wc [a, b, c, d, e, f, g, h]) 68 (0, 0)) := Below.at hb1 (by simp; omega) (al3 _ _ _ _).1
  have q1 : w1.heap[w.heap.size + 1]? = some (.cells (wc (List.replicate 8 0)) 68 (0, 0)) := Below.at hb1 (by simp) (al3 _ _ _ _).2.1
  have q2 : w1.heap[w.heap.size + 1 + 1]? = some (.cells (pRounds (sched s.data.toList) ⟨a, b, c, d, e, f, g, h⟩ 0).cells 68 (0, 0)) := Below.at hb1 (by simp) (al3 _ _ _ _).2.2
  have hb : Below w.heap.size w w1 := (bel3 _ _ _ _).trans (hb1.mono (by simp; omega))
  clear hb1
  generalize hst : S8.mk a b c d e f g h = st at q2
  have Hst := hide hst
  clear hst
  go_loopw [19] (fun i wr => ∃ k : Nat, k ≤ 64 ∧ i = .int .i64 k ∧ Below w.heap.size w wr ∧ w.heap.size + 1 + 1 + 1 ≤ wr.heap.size ∧ wr.heap[w.heap.size]? = some (.cells (wc [a, b, c, d, e, f, g, h]) 68 (0, 0)) ∧ wr.heap[w.heap.size + 1]? = some (.cells (wc (List.replicate 8 0)) 68 (0, 0)) ∧ wr.heap[w.heap.size + 1 + 1]? = some (.cells (pRounds (sched s.data.toList) st k).cells 68 (0, 0))) (fun i _ => 64 - (intOf i).toNat)
  case atStart => exact ⟨0, by omega, rfl, hb, hB, q0, q1, q2⟩
  case round =>
    clear hb hB q0 q1 q2
    obtain ⟨k, hk, rfl, hb, hB, q0, q1, q2⟩ := hrel
    by_cases hlt : k < 64
    · have tb := tabs.below hb (Nat.le_refl _)
      have hidx := index64 (sched s.data.toList) (sched_length _) k hlt
      generalize hr : pRounds (sched s.data.toList) st k = r at q2
      have Hr := hide hr
      clear hr
      obtain ⟨r0, r1, r2, r3, r4, r5, r6, r7⟩ := r
      have c0 : wr.cell? ⟨w.heap.size + 1 + 1, 0, none⟩ = some (.int .u32 (r0.toNat : Int)) := cell_of_row _ _ _ _ _ _ q2
      have c1 : wr.cell? ⟨w.heap.size + 1 + 1, 1, none⟩ = some (.int .u32 (r1.toNat : Int)) := cell_of_row _ _ _ _ _ _ q2
      have c2 : wr.cell? ⟨w.heap.size + 1 + 1, 2, none⟩ = some (.int .u32 (r2.toNat : Int)) := cell_of_row _ _ _ _ _ _ q2
      have c4 : wr.cell? ⟨w.heap.size + 1 + 1, 4, none⟩ = some (.int .u32 (r4.toNat : Int)) := cell_of_row _ _ _ _ _ _ q2
      have c5 : wr.cell? ⟨w.heap.size + 1 + 1, 5, none⟩ = some (.int .u32 (r5.toNat : Int)) := cell_of_row _ _ _ _ _ _ q2
      have c6 : wr.cell? ⟨w.heap.size + 1 + 1, 6, none⟩ = some (.int .u32 (r6.toNat : Int)) := cell_of_row _ _ _ _ _ _ q2
      have c7 : wr.cell? ⟨w.heap.size + 1 + 1, 7, none⟩ = some (.int .u32 (r7.toNat : Int)) := cell_of_row _ _ _ _ _ _ q2
      obtain ⟨xk, ek, ck⟩ : ∃ x : BitVec 32, Hid (kWords.getD k 0 = x) ∧ wr.cell? ⟨1, k, none⟩ = some (.int .u32 (x.toNat : Int)) := ⟨_, rfl, tb.k k hlt⟩
      obtain ⟨xw, ew, cw⟩ : ∃ x : BitVec 32, Hid ((sched s.data.toList).getD k 0 = x) ∧ ∀ w, (Instr.index 102 (.agg (wc (sched s.data.toList))) (.int .i64 (k : Int))).run Tryd.prog w = .ok (.int .u32 (x.toNat : Int)) w := ⟨_, rfl, hidx⟩
      clear hidx tb
      have bk : (0:Int) ≤ k ∧ (k : Int) < 64 := by omega
      have am := a_mod
      have aw := a_wrap
      go_wp2
      go_quiet ((first | (go_at_call 62; exact Calls.quiet_of_same (bigOne_calls _ _)) | (go_at_call 63; exact Calls.quiet_of_same (choice_calls _ _ _ _))))
      go_wp2
      generalize hw2 : wr.drewN nq = w2
      have hc2 : ∀ p, w2.cell? p = wr.cell? p := fun p => by rw [← hw2]; rfl
      have Hw2 := hide hw2
      clear hw2
      go_quiet ((first | (go_at_call 64; exact Calls.quiet_of_same (bigZero_calls _ _)) | (go_at_call 65; exact Calls.quiet_of_same (majority_calls _ _ _ _))))
      go_wp2
      have q3 : (w2.drewN nq).heap[w.heap.size + 1 + 1]? = some (.cells (wc [r0, r1, r2, r3, r4, r5, r6, r7]) 68 (0, 0)) := by rw [World.heap_drewN, ← unhide Hw2]; exact q2
      have q4 : ∀ k : Nat, (w2.drewN nq).heap[k]? = wr.heap[k]? := by intro k; rw [World.heap_drewN, ← unhide Hw2]; rfl
      have q5 : Below wr.heap.size wr (w2.drewN nq) := by rw [← unhide Hw2]; exact below_drewN (below_drewN (Below.refl _ _) _) _
      generalize w2.drewN nq = w3 at *
      clear hc2 Hw2
      refine wp_region_still_tail 2 mixed (by kernel_rfl) ?_
      simp only [List.take_succ_cons, List.take_zero, List.drop_succ_cons, List.drop_zero]
      iterate 2 still_step
      refine wpStill_nil ?_
      refine wpList_copy_abs (w := w3.drew) rfl (.tmp 54) (.tmp 55) 111 111 rfl 22 Tryd.underlying111 u8w (w.heap.size + 1 + 1) 1 7 7 ⟨w.heap.size + 1 + 1, 0, none⟩ 7 8 rfl rfl _ _ q3 (wc [r0, r1, r2, r3, r4, r5, r6]).toList rfl (src_of_row _ _ _ _ _ q3 _ ⟨(wc [r7]).toList, rfl⟩) (by simp) ?one (wc [r0, r0, r1, r2, r3, r4, r5, r6]) rfl ?_
      case one => intro v hv; exact List.all_eq_true.1 (by simpa using wc_oneCell [r0, r1, r2, r3, r4, r5, r6]) v hv
      intro w4 p4 k4 s4 b4
      have d3 : w4.cell? ⟨w.heap.size + 1 + 1, 4, none⟩ = some (.int .u32 (r3.toNat : Int)) := cell_of_row _ _ _ _ _ _ p4
      have d0 : w4.cell? ⟨w.heap.size + 1 + 1, 0, none⟩ = some (.int .u32 (r0.toNat : Int)) := cell_of_row _ _ _ _ _ _ p4
      have f0 : w4.frozen? ⟨w.heap.size + 1 + 1, 0, none⟩ = false := frozen_of_row _ _ _ _ _ p4
      have f4 : w4.frozen? ⟨w.heap.size + 1 + 1, 4, none⟩ = false := frozen_of_row _ _ _ _ _ p4
      have K4 := hide k4
      have P4 := hide p4
      have Q4 := hide q4
      clear k4 p4 q4 q3 c0 c1 c2 c4 c5 c6 c7 cw ck
      go_wp2
      go_roundw
      case rel =>
        have e4 : (w3.drew).heap.size = w3.heap.size := rfl
        have z5 := q5.size
        refine ⟨k + 1, by omega, by go_num, ?_, ?_, ?_, ?_, ?_⟩
        · exact ((((hb.trans (q5.mono (by omega))).drew).trans (b4.mono (by omega))).setCell (by simp; omega) _).setCell (by simp; omega) _
        · simp only [World.size_setCell]; omega
        · rw [heap_setCell_other _ _ _ _ (by simp; omega), heap_setCell_other _ _ _ _ (by simp; omega), unhide K4 _ (by omega)]; exact (unhide Q4 _).trans q0
        · rw [heap_setCell_other _ _ _ _ (by simp), heap_setCell_other _ _ _ _ (by simp), unhide K4 _ (by omega)]; exact (unhide Q4 _).trans q1
        · rw [heap_setCell_same _ _ _ _ _ _ (heap_setCell_same _ _ _ _ _ _ (unhide P4))]
          have er : pRounds (sched s.data.toList) st (k + 1) = pRound xk xw ⟨r0, r1, r2, r3, r4, r5, r6, r7⟩ := by
            show pRound _ _ (pRounds _ _ k) = _
            rw [unhide Hr, unhide ek, unhide ew]
          rw [er]; rfl
      case measure => simp [intOf]; omega
    · have q2' : wr.heap[w.heap.size + 1 + 1]? = some (.cells (pRounds (sched s.data.toList) st 64).cells 68 (0, 0)) := by rw [q2, show k = 64 by omega]
      clear q2
      generalize hr : pRounds (sched s.data.toList) st 64 = r at q2'
      have Hr := hide hr
      clear hr
      have hir : (Tryd.prog.info? 68).map (·.size) = some r.cells.size := by show _ = some 8; kernel_rfl
      have hd : decide ((k : Int) < 64) = false := by simp; omega
      go_wp2_with (refine wpList_load_row rfl 68 (.tmp 5) rfl (w.heap.size + 1 + 1) rfl 68 _ (0, 0) _ q2' Tryd.underlying68 rfl hir ?_)
      generalize hx : [a, b, c, d, e, f, g, h] = xs at *
      have hxl : xs.length = 8 := by rw [← hx]; rfl
      have Hx := hide hx
      clear hx
      go_loopw [68] (fun i wr => ∃ j : Nat, j ≤ 8 ∧ i = .int .i64 j ∧ Below w.heap.size w wr ∧ wr.heap[w.heap.size]? = some (.cells (wc (addTo xs r.list j)) 68 (0, 0)) ∧ wr.heap[w.heap.size + 1]? = some (.cells (wc (List.replicate 8 0)) 68 (0, 0))) (fun i _ => 8 - (intOf i).toNat)
      case atStart => exact ⟨0, by omega, rfl, hb, by rw [addTo_zero]; exact q0, q1⟩
      case round =>
        clear hb hB q0 q1 q2' hir
        obtain ⟨j, hj, rfl, hb, q0, q1⟩ := hrel
        by_cases hlt : j < 8
        · have c0 : wr.cell? ⟨w.heap.size, j, none⟩ = some (.int .u32 ((xs.getD j 0).toNat : Int)) := by
            rw [cell_of_row _ _ _ _ _ _ q0, wc_at _ _ (by rw [addTo_length _ _ _ (by omega) (by rw [hxl]; rfl)]; omega), addTo_get _ _ _ (by omega) (by rw [hxl]; rfl)]
          have f0 : wr.frozen? ⟨w.heap.size, j, none⟩ = false := frozen_of_row _ _ _ _ _ q0
          have hidx : ∀ w, (Instr.index 68 (.agg r.cells) (.int .i64 (j : Int))).run Tryd.prog w = .ok (.int .u32 ((r.list.getD j 0).toNat : Int)) w := index8 r.list rfl j hlt
          generalize hy : r.list.getD j 0 = y at hidx
          generalize hx : xs.getD j 0 = x at c0
          have Hy := hide hy
          have Hxx := hide hx
          clear hx hy
          have bj : (0:Int) ≤ j ∧ (j : Int) < 8 := by omega
          have am := a_mod
          have aw := a_wrap
          go_wp2
          go_roundw
          case rel =>
            refine ⟨j + 1, by omega, by go_num, ?_, ?_, ?_⟩
            · exact hb.setCell (by simp) _
            · rw [heap_setCell_same _ _ _ _ _ _ q0, ← addTo_set _ _ _ (by omega) (by rw [hxl]; rfl), unhide Hy, unhide Hxx]
            · rw [heap_setCell_other _ _ _ _ (by simp)]; exact q1
          case measure => simp [intOf]; omega
        · have q0' : wr.heap[w.heap.size]? = some (.cells (pBlock st s.data.toList).cells 68 (0, 0)) := by
            have e1 : (pBlock st s.data.toList).list = addTo xs r.list 8 := by
              have hl : s.data.toList.length = 64 := by simpa using hs
              rw [pBlock, if_pos hl, S8.add_list, unhide Hr, addTo_all _ _ _ hxl.symm (by rw [hxl]; rfl), ← unhide Hx, ← unhide Hst]; rfl
            rw [q0, show j = 8 by omega, ← e1]; rfl
          have hib : (Tryd.prog.info? 68).map (·.size) = some (pBlock st s.data.toList).cells.size := by show _ = some 8; kernel_rfl
          have ho1 : (pBlock st s.data.toList).cells.all (·.oneCell') = true := wc_oneCell _
          generalize hpb : pBlock st s.data.toList = pb at q0' hib ho1
          have Hpb := hide hpb
          clear hpb q0
          have hd : decide ((j : Int) < 8) = false := by simp; omega
          go_wp2_with (first
            | (refine wpList_load_row rfl 68 (.tmp 2) rfl w.heap.size rfl 68 _ (0, 0) _ q0' Tryd.underlying68 rfl hib ?_)
            | (refine wpList_store_row rfl 68 (.tmp 4) (.tmp 79) rfl (w.heap.size + 1) _ rfl rfl 68 _ q1 hib rfl ho1 ?_))
          exact bodyPost_ret (results_cell_row rfl _ _ (w.heap.size + 1) _ _ _ _ rfl (setRow_heap _ _ _ _ _ _ q1) Tryd.underlying68 rfl hib) rfl ⟨by rw [← unhide Hpb, ← unhide Hst]; rfl, below_setRow hb (by simp) _⟩
end Go.Proofs.YtaclnlmmkcjjeaaDoor
