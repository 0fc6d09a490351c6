/-
  WHAT name's Says RETURNS.
-/
import Derived.Test.YtlanplknendmaaaNameStray
namespace Go.Proofs.Ytlanplknendmaaa
open Go.RowKit
set_option linter.unusedSimpArgs false
set_option linter.unusedVariables false

/-- May that be said? -/
def sayRune (l : List UInt8) (x : Nat × Nat) : Bool := !(pStray l x.1 x.2) && (!decide (x.2 < 32) && !(x.2 == 127))
def pSays (l : List UInt8) : Bool := (items l).all (sayRune l) && decide ((items l).length ≤ 64)

set_option maxHeartbeats 2000000 in
set_option maxRecDepth 100000 in
theorem says_calls (l : List UInt8) (hl : l.length ≤ 4611686018427387904) (w : World) :
    Calls Try.prog 41 #[.string (str l)] w fun e w' => e = .returned (.bool (pSays l)) ∧ Below w.heap.size w w' := by
  have hsz : (str l).size = l.length := str_size l
  generalize hs : str l = s at *
  generalize hR : pSays l = R
  have HR := hide hR
  have Hs := hide hs
  have Hsz := hide hsz
  clear hs hsz hR
  go_enter Try.func41, Try.ntmps41
  go_wp2
  go_loopw [3] (fun a wr => ∃ (pos fuel : Nat) (dn : List (Nat × Nat)), a = .int .i64 (dn.length : Int) ∧ wr.heap[w.heap.size]? = some (.stringIter s pos) ∧ Below w.heap.size w wr ∧ Hid (items l = dn ++ itemsFrom s fuel pos) ∧ Hid (dn.all (sayRune l) = true) ∧ l.length ≤ pos + fuel ∧ dn.length ≤ pos) (fun _ wr => l.length - wr.iterPos w.heap.size)
  case atStart =>
    have e : items l = itemsFrom s l.length 0 := by rw [items, unhide Hs]
    refine ⟨0, l.length, [], rfl, ?_, (Below.refl _ w).alloc (Nat.le_refl _) _, e, rfl, by omega, by simp⟩
    have := World.iter_heap w s 0
    simpa using this
  case round =>
    obtain ⟨pos, fuel, dn, rfl, hit, hb, hI, hN, hf, hdn⟩ := hrel
    have hlt : w.heap.size < wr.heap.size := (Array.getElem?_eq_some_iff.1 hit).1
    have hsz := unhide Hsz
    by_cases hp : pos < s.size
    · have hnx : ∀ ty, (Instr.next (.pointer (some ⟨w.heap.size, 0, none⟩)) true ty).run Try.prog wr = _ := fun ty => Lib.run_next_any_at wr w.heap.size s pos ty hit hp
      have hwd := width_pos s pos hp
      have hd1 := decode_le s pos
      have hit2 := Lib.iterAt_heap wr w.heap.size s pos (pos + (Utf8.decode s pos).2) hit
      have hb2 := Lib.below_iterAt hb (k := w.heap.size) (Nat.le_refl _) s (pos + (Utf8.decode s pos).2)
      obtain ⟨f, rfl⟩ : ∃ f, fuel = f + 1 := ⟨fuel - 1, by omega⟩
      have hst := isStray_calls l pos (Utf8.decode s pos).1 (by omega) (by omega)
      rw [unhide Hs] at hst
      have hnew : items l = (dn ++ [(pos, (Utf8.decode s pos).1)]) ++ itemsFrom s f (pos + (Utf8.decode s pos).2) := by
        rw [unhide hI]; simp [itemsFrom, hp]
      generalize hr : (Utf8.decode s pos).1 = r at *
      generalize hwv : (Utf8.decode s pos).2 = wd at *
      have hpl : pos < l.length := by omega
      have Hnew := hide hnew
      have Hit2 := hide hit2
      generalize hdl : dn.length = dl at *
      have Hdl := hide hdl
      have w1 := wi64 ((dl : Int) + 1) (by omega) (by omega)
      clear hnew hr hwv hI hit2 hsz hdl
      have hbad : sayRune l (pos, r) = false → R = false := fun h => by
        rw [← unhide HR, pSays, unhide Hnew, List.all_append, List.all_append]; simp [h]
      have Hbad := hide hbad
      clear hbad
      cases hc : pStray l pos r with
      | true =>
        have hRf : R = false := unhide Hbad (by simp [sayRune, hc])
        have HRf := hide hRf
        rw [hc] at hst
        have Hst := hide hst
        clear hst hRf hc
        go_wp2_with (go_at_call 57; refine (unhide Hst _).mono ?_; rintro e w' ⟨rfl, rfl⟩)
        go_ret
        exact ⟨by rw [unhide HRf]; rfl, hb2⟩
      | false =>
        rw [hc] at hst
        have Hst := hide hst
        clear hst
        by_cases h32 : r < 32
        · have hRf : R = false := unhide Hbad (by simp [sayRune, hc, h32])
          have HRf := hide hRf
          have d1 : decide ((r : Int) < 32) = true := by simp; omega
          clear hRf hc
          go_wp2_with (go_at_call 57; refine (unhide Hst _).mono ?_; rintro e w' ⟨rfl, rfl⟩)
          go_ret
          exact ⟨by rw [unhide HRf]; rfl, hb2⟩
        · have d1 : decide ((r : Int) < 32) = false := by simp; omega
          by_cases h127 : r = 127
          · have hRf : R = false := unhide Hbad (by simp [sayRune, hc, h127])
            have HRf := hide hRf
            have d2 : ((r : Int) == 127) = true := by simp; omega
            clear hRf hc h127
            go_wp2_with (go_at_call 57; refine (unhide Hst _).mono ?_; rintro e w' ⟨rfl, rfl⟩)
            go_ret
            exact ⟨by rw [unhide HRf]; rfl, hb2⟩
          · have d2 : ((r : Int) == 127) = false := by simp; omega
            have hgood : sayRune l (pos, r) = true := by simp [sayRune, hc, h127]; omega
            have Hgood := hide hgood
            clear hgood hc h127
            go_wp2_with (go_at_call 57; refine (unhide Hst _).mono ?_; rintro e w' ⟨rfl, rfl⟩)
            have hdl := unhide Hdl
            refine ⟨⟨pos + wd, f, dn ++ [(pos, r)], by simp [hdl], unhide Hit2, hb2, Hnew, ?_, by omega, by simp; omega⟩, ?_⟩
            · show (dn ++ [(pos, r)]).all (sayRune l) = true
              rw [List.all_append, unhide hN]; simp [unhide Hgood]
            · simp only [World.iterPos, unhide Hit2, hit]; omega
    · have hnx : ∀ ty, (Instr.next (.pointer (some ⟨w.heap.size, 0, none⟩)) true ty).run Try.prog wr = _ := fun ty => Lib.run_next_end_at wr w.heap.size s pos ty hit hp
      have hI' := unhide hI
      rw [itemsFrom_end s fuel pos hp, List.append_nil] at hI'
      have h1 : R = decide (dn.length ≤ 64) := by
        rw [← unhide HR, pSays, hI', unhide hN, Bool.true_and]
      have H1 := hide h1
      clear hI' h1 hsz hN hI
      generalize dn.length = n at *
      cases d2 : decide ((n : Int) ≤ 64)
      all_goals
        go_wp2
        go_ret
        refine ⟨?_, hb⟩
        rw [unhide H1]
        simp only [decide_eq_true_eq, decide_eq_false_iff_not] at d2
        simp
        omega
end Go.Proofs.Ytlanplknendmaaa
