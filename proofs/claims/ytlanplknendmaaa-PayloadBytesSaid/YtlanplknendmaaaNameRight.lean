/-
  WHAT name's Right AND Says RETURN.
-/
import Derived.Test.YtlanplknendmaaaNameStray
namespace Go.Proofs.Ytlanplknendmaaa
open Go.RowKit
set_option linter.unusedSimpArgs false
set_option linter.unusedVariables false

/-- May the rune stand at that place of a name? -/
def nameRune (i r : Nat) : Bool := pSmall r || (i != 0 && pDigit r)
/-- All runes from place i on. -/
def nameFrom : Nat → List (Nat × Nat) → Bool
  | _, [] => true
  | i, x :: l => nameRune i x.2 && nameFrom (i + 1) l
def pRight (l : List UInt8) : Bool := nameFrom 0 (items l) && (decide (1 ≤ (items l).length) && decide ((items l).length ≤ 12))

set_option maxHeartbeats 2000000 in
set_option maxRecDepth 100000 in
theorem right_calls (l : List UInt8) (hl : l.length ≤ 4611686018427387904) (w : World) :
    Calls Try.prog 40 #[.string (str l)] w fun e w' => e = .returned (.bool (pRight l)) ∧ Below w.heap.size w w' := by
  have hsz : (str l).size = l.length := str_size l
  generalize hs : str l = s at *
  generalize hR : pRight l = R
  have HR := hide hR
  have Hs := hide hs
  have Hsz := hide hsz
  clear hs hsz hR
  go_enter Try.func40, Try.ntmps40
  go_wp2
  go_loopw [3] (fun a wr => ∃ (pos fuel : Nat) (dn : List (Nat × Nat)), a = .int .i64 (dn.length : Int) ∧ wr.heap[w.heap.size]? = some (.stringIter s pos) ∧ Below w.heap.size w wr ∧ Hid (items l = dn ++ itemsFrom s fuel pos) ∧ Hid (nameFrom 0 (items l) = nameFrom dn.length (itemsFrom s fuel pos)) ∧ l.length ≤ pos + fuel ∧ dn.length ≤ pos) (fun _ wr => l.length - wr.iterPos w.heap.size)
  case atStart =>
    have e : items l = itemsFrom s l.length 0 := by rw [items, unhide Hs]
    refine ⟨0, l.length, [], rfl, ?_, (Below.refl _ w).alloc (Nat.le_refl _) _, ?_, ?_, by omega, by simp⟩
    · have := World.iter_heap w s 0
      simpa using this
    · exact e
    · show nameFrom 0 (items l) = _; rw [e]; rfl
  case round =>
    obtain ⟨pos, fuel, dn, rfl, hit, hb, hI, hN, hf, hdn⟩ := hrel
    have hlt : w.heap.size < wr.heap.size := (Array.getElem?_eq_some_iff.1 hit).1
    have hsz := unhide Hsz
    by_cases hp : pos < s.size
    · have hnx : ∀ ty, (Instr.next (.pointer (some ⟨w.heap.size, 0, none⟩)) true ty).run Try.prog wr = _ := fun ty => Lib.run_next_any_at wr w.heap.size s pos ty hit hp
      have hwd := width_pos s pos hp
      have hd1 := decode_le s pos
      have hit2 := Lib.iterAt_heap wr w.heap.size s pos (pos + (Utf8.decode s pos).2) hit
      have hb2 := Lib.below_iterAt hb (k := w.heap.size) (Nat.le_refl _) s (pos + (Utf8.decode s pos).2)
      obtain ⟨f, rfl⟩ : ∃ f, fuel = f + 1 := ⟨fuel - 1, by omega⟩
      have hnew : items l = (dn ++ [(pos, (Utf8.decode s pos).1)]) ++ itemsFrom s f (pos + (Utf8.decode s pos).2) := by
        rw [unhide hI]; simp [itemsFrom, hp]
      have hname : nameFrom 0 (items l) = (nameRune dn.length (Utf8.decode s pos).1 && nameFrom (dn.length + 1) (itemsFrom s f (pos + (Utf8.decode s pos).2))) := by
        rw [unhide hN]; simp [itemsFrom, hp, nameFrom]
      generalize hr : (Utf8.decode s pos).1 = r at *
      generalize hwv : (Utf8.decode s pos).2 = wd at *
      have hpl : pos < l.length := by omega
      have Hnew := hide hnew
      have Hname := hide hname
      have Hit2 := hide hit2
      clear hnew hname hr hwv hI hN hit2 hsz
      generalize hdl : dn.length = dl at *
      have Hdl := hide hdl
      have w1 := wi64 ((dl : Int) + 1) (by omega) (by omega)
      clear hdl
      cases hc : nameRune dl r with
      | true =>
        have hgo : pSmall r = true ∨ (pSmall r = false ∧ dl ≠ 0 ∧ pDigit r = true) := by
          cases h1 : pSmall r with
          | true => exact .inl rfl
          | false => right; simpa [nameRune, h1] using hc
        have hrel' : (∃ pos_1 fuel dn_1, Value.int .i64 ((dl : Int) + 1) = Value.int .i64 ((dn_1 : List (Nat × Nat)).length : Int) ∧ (wr.iterAt w.heap.size s (pos + wd)).heap[w.heap.size]? = some (.stringIter s pos_1) ∧ Below w.heap.size w (wr.iterAt w.heap.size s (pos + wd)) ∧ Hid (items l = dn_1 ++ itemsFrom s fuel pos_1) ∧ Hid (nameFrom 0 (items l) = nameFrom dn_1.length (itemsFrom s fuel pos_1)) ∧ l.length ≤ pos_1 + fuel ∧ dn_1.length ≤ pos_1) ∧ l.length - (wr.iterAt w.heap.size s (pos + wd)).iterPos w.heap.size < l.length - wr.iterPos w.heap.size := by
          have hdl := unhide Hdl
          refine ⟨⟨pos + wd, f, dn ++ [(pos, r)], by simp [hdl], unhide Hit2, hb2, Hnew, ?_, by omega, by simp; omega⟩, ?_⟩
          · show nameFrom 0 (items l) = _
            rw [unhide Hname, hc, Bool.true_and, List.length_append, hdl]; rfl
          · simp only [World.iterPos, unhide Hit2, hit]; omega
        have Hrel' := hide hrel'
        clear hrel'
        rcases hgo with h1 | ⟨h1, h2, h3⟩
        · have Hsm := fun w => isSmall_calls r w
          rw [h1] at Hsm
          have HSm := hide Hsm
          clear Hsm h1 hc
          go_wp2_with (first
            | (go_at_call 55; refine (unhide HSm _).mono ?_; rintro e w' ⟨rfl, rfl⟩)
            | (go_at_call 56; refine (isDigit_calls _ _).mono ?_; rintro e w' ⟨rfl, rfl⟩))
          exact unhide Hrel'
        · have Hsm := fun w => isSmall_calls r w
          have Hdg := fun w => isDigit_calls r w
          rw [h1] at Hsm
          rw [h3] at Hdg
          have HSm := hide Hsm
          have HDg := hide Hdg
          have hd0 : ((dl : Int) == 0) = false := by simp; omega
          clear Hsm Hdg h1 h3 hc
          go_wp2_with (first
            | (go_at_call 55; refine (unhide HSm _).mono ?_; rintro e w' ⟨rfl, rfl⟩)
            | (go_at_call 56; refine (unhide HDg _).mono ?_; rintro e w' ⟨rfl, rfl⟩))
          exact unhide Hrel'
      | false =>
        have hRf : R = false := by rw [← unhide HR, pRight, unhide Hname, hc]; rfl
        have HRf := hide hRf
        have hsm : pSmall r = false := by cases h1 : pSmall r with | false => rfl | true => simp [nameRune, h1] at hc
        have Hsm := fun w => isSmall_calls r w
        rw [hsm] at Hsm
        have HSm := hide Hsm
        by_cases h0 : dl = 0
        · have hd0 : ((dl : Int) == 0) = true := by simp; omega
          clear Hsm hsm hc hRf
          go_wp2_with (go_at_call 55; refine (unhide HSm _).mono ?_; rintro e w' ⟨rfl, rfl⟩)
          go_ret
          exact ⟨by rw [unhide HRf]; rfl, hb2⟩
        · have hd0 : ((dl : Int) == 0) = false := by simp; omega
          have hdg : pDigit r = false := by cases h1 : pDigit r with | false => rfl | true => simp [nameRune, h1, h0] at hc
          have Hdg := fun w => isDigit_calls r w
          rw [hdg] at Hdg
          have HDg := hide Hdg
          clear Hsm hsm Hdg hdg hc hRf
          go_wp2_with (first
            | (go_at_call 55; refine (unhide HSm _).mono ?_; rintro e w' ⟨rfl, rfl⟩)
            | (go_at_call 56; refine (unhide HDg _).mono ?_; rintro e w' ⟨rfl, rfl⟩))
          go_ret
          exact ⟨by rw [unhide HRf]; rfl, hb2⟩
    · have hnx : ∀ ty, (Instr.next (.pointer (some ⟨w.heap.size, 0, none⟩)) true ty).run Try.prog wr = _ := fun ty => Lib.run_next_end_at wr w.heap.size s pos ty hit hp
      have hI' := unhide hI
      have hN' := unhide hN
      rw [itemsFrom_end s fuel pos hp, List.append_nil] at hI'
      rw [itemsFrom_end s fuel pos hp] at hN'
      have h1 : R = (decide (1 ≤ dn.length) && decide (dn.length ≤ 12)) := by
        rw [← unhide HR, pRight, hN', hI']; simp [nameFrom]
      have H1 := hide h1
      clear hI' hN' h1 hsz
      generalize dn.length = n at *
      cases d1 : decide ((1 : Int) ≤ (n : Int)) <;> cases d2 : decide ((n : Int) ≤ 12)
      all_goals
        go_wp2
        go_ret
        refine ⟨?_, hb⟩
        rw [unhide H1]
        simp only [decide_eq_true_eq, decide_eq_false_iff_not] at d1 d2
        simp
        omega
end Go.Proofs.Ytlanplknendmaaa
