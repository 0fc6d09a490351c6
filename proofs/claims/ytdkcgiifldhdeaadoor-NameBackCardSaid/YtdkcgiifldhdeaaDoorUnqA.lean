/-
  WHAT name.Unquote RETURNS: the one text whose quote it is, or none.
-/
import Derived.Test.YtdkcgiifldhdeaaDoorUnqN
import Derived.Test.YtdkcgiifldhdeaaDoorShelfC
import Derived.Test.YtdkcgiifldhdeaaDoorNameQuote
import Derived.Test.YtdkcgiifldhdeaaDoorBufB
namespace Go.Proofs.YtdkcgiifldhdeaaDoor
open Go.RowKit
set_option linter.unusedSimpArgs false
set_option linter.unusedVariables false

theorem pre_iff (l : List UInt8) : Lib.hasPrefix l [34] = true ↔ ∃ m, l = 34 :: m := by
  cases l with
  | nil => simp [Lib.hasPrefix]
  | cons a m => simp [Lib.hasPrefix, List.isPrefixOf]; exact eq_comm
theorem suf_iff (l : List UInt8) : Lib.hasSuffix l [34] = true ↔ ∃ m, l = m ++ [34] := by
  unfold Lib.hasSuffix
  rw [List.isSuffixOf_iff_suffix]
  constructor
  · rintro ⟨m, h⟩; exact ⟨m, h.symm⟩
  · rintro ⟨m, h⟩; exact ⟨m, h.symm⟩
theorem quote_form (t : List UInt8) : ∃ m, pQuote t = 34 :: (m ++ [34]) := ⟨_, pQuote_nums t⟩
theorem ends_yes (s : List UInt8) (h1 : Lib.hasPrefix s [34] = true) (h2 : Lib.hasSuffix (Lib.trimPrefix s [34]) [34] = true) : s = 34 :: (Lib.trimSuffix (Lib.trimPrefix s [34]) [34] ++ [34]) := by
  obtain ⟨m, rfl⟩ := (pre_iff s).1 h1
  have e : Lib.trimPrefix (34 :: m) [34] = m := by unfold Lib.trimPrefix; rw [if_pos h1]; rfl
  rw [e] at h2 ⊢
  obtain ⟨k, rfl⟩ := (suf_iff m).1 h2
  unfold Lib.trimSuffix
  rw [if_pos h2]; simp
theorem ends_no (s : List UInt8) (h : ¬ (Lib.hasPrefix s [34] = true ∧ Lib.hasSuffix (Lib.trimPrefix s [34]) [34] = true)) : ∀ t, pQuote t ≠ s := by
  intro t ht
  obtain ⟨m, hm⟩ := quote_form t
  rw [ht] at hm
  apply h
  have h1 : Lib.hasPrefix s [34] = true := (pre_iff s).2 ⟨_, hm⟩
  refine ⟨h1, ?_⟩
  unfold Lib.trimPrefix
  rw [if_pos h1, hm]
  exact (suf_iff _).2 ⟨m, rfl⟩
set_option maxHeartbeats 4000000 in
set_option maxRecDepth 100000 in
theorem unquote_calls (s : List UInt8) (hl : s.length ≤ 1000000000) (w : World) (he : Errs w) (tab : Tab16 w) :
    Calls Tryd.prog 20 #[.string (str s)] w fun e w' => ∃ r ok, e = .returned (.tuple #[.string (str r), .bool ok]) ∧ UnqIs s r ok ∧ Below w.heap.size w w' := by
  have HE := hide he
  have HT := hide tab
  have cP := fun w => cutPrefix_calls s [34] w
  have hpl := Lib.trimPrefix_le s [34]
  have cS := fun w => cutSuffix_calls (Lib.trimPrefix s [34]) [34] (by omega) w
  have hsl := Lib.trimSuffix_le (Lib.trimPrefix s [34]) [34]
  have h34 : (⟨#[34]⟩ : ByteArray) = str [34] := rfl
  have HY := hide (ends_yes s)
  have HNo := hide (ends_no s)
  generalize Lib.trimSuffix (Lib.trimPrefix s [34]) [34] = inner at *
  generalize Lib.hasSuffix (Lib.trimPrefix s [34]) [34] = b2 at *
  generalize Lib.trimPrefix s [34] = mid at *
  generalize Lib.hasPrefix s [34] = b1 at *
  have CP := hide cP
  have CS := hide cS
  clear he tab cP cS
  by_cases hb : b1 = true ∧ b2 = true
  · obtain ⟨rfl, rfl⟩ := hb
    have hs := unhide HY rfl rfl
    have hR := rd_start s inner hs
    have HR := hide hR
    clear HNo HY hR hs
    go_enter Tryd.func20, Tryd.ntmps20
    go_wp2_with fail
    refine (unhide CP _).mono ?_
    rintro e w1 ⟨rfl, rfl⟩
    go_wp2_with fail
    refine (unhide CS _).mono ?_
    rintro e w1 ⟨rfl, rfl⟩
    have hbld := Lib.IsBuilderF.of (Lib.fresh_isBuilder 42 5 w1)
    go_wp2
    go_loopw [4, 8, 9] (fun r p k wr => ∃ rest acc : List UInt8, r = .string (str rest) ∧ acc.length + 4 * rest.length ≤ 4000000000 ∧ Hid (Rd s rest acc) ∧ Lib.IsBuilderF 42 5 w1.heap.size w1.heap.size (Lib.byteCells acc) wr ∧ Below w1.heap.size w1 wr) (fun r _ _ _ => match r with | .string b => b.size | _ => 0)
    case atStart => exact ⟨inner, [], rfl, by simp; omega, HR, hbld, (Below.refl _ _).alloc (Nat.le_refl _) _⟩
    case round =>
      clear hbld HR
      obtain ⟨rest, acc, rfl, hal, hR, hB, hb⟩ := hrel
      by_cases hr : rest = []
      · subst hr
        have hE : (str ([] : List UInt8)).toList.isEmpty = true := by rw [ByteArray.toList_eq, str_toList]; rfl
        have hend := rd_end (unhide hR)
        have cQ := fun w => quote_calls acc (by omega) w
        have hz := hb.size
        by_cases hq : pQuote acc = s
        · have hc : ((str (pQuote acc)).toList == (str s).toList) = true := by rw [hq]; simp
          have HU : Hid (UnqIs s acc true) := .inl ⟨rfl, hq, hend⟩
          clear hend hR hq
          go_wp2_with fail
          refine (string_calls w1.heap.size w1.heap.size acc _ hB (by omega)).mono ?_
          rintro e W2 ⟨rfl, _, b2, _⟩
          have hb2 := hb.trans b2
          go_wp2_with fail
          refine (cQ _ ((unhide HT).below hb2 (Nat.le_refl _))).mono ?_
          rintro e W3 ⟨rfl, b3⟩
          go_wp2
          go_ret2
          exact ⟨acc, true, rfl, unhide HU, hb2.trans (b3.mono hb2.size)⟩
        · have hc : ((str (pQuote acc)).toList == (str s).toList) = false := by
            rw [ByteArray.toList_eq, ByteArray.toList_eq, str_toList, str_toList]; simpa using hq
          have HU : Hid (UnqIs s [] false) := .inr ⟨rfl, rfl, fun t ht => hq (by rw [← hend t ht]; exact ht)⟩
          clear hend hR hq
          go_wp2_with fail
          refine (string_calls w1.heap.size w1.heap.size acc _ hB (by omega)).mono ?_
          rintro e W2 ⟨rfl, _, b2, _⟩
          have hb2 := hb.trans b2
          go_wp2_with fail
          refine (cQ _ ((unhide HT).below hb2 (Nat.le_refl _))).mono ?_
          rintro e W3 ⟨rfl, b3⟩
          go_wp2
          go_ret2
          exact ⟨[], false, rfl, unhide HU, hb2.trans (b3.mono hb2.size)⟩
      · have hE : (str rest).toList.isEmpty = false := by
          rw [ByteArray.toList_eq, str_toList]; simpa using hr
        have cR := fun w hE => readPiece_calls rest (by omega) hr w hE
        have hz := hb.size
        have Hr := hide hr
        clear hr
        go_wp2_with fail
        refine (cR _ ((unhide HE).below hb (Nat.le_refl _))).mono ?_
        rintro e W2 ⟨p, k, rfl, hP, b2⟩
        have hB2 := isBuilder_below hB b2
        have hb2 : Below w1.heap.size w1 W2 := hb.trans (b2.mono hz)
        have hp4 := hP.1
        have hkl := hP.2.1
        by_cases hk : k = 0
        · subst hk
          have HU : Hid (UnqIs s [] false) := .inr ⟨rfl, rfl, rd_none (unhide hR) (unhide Hr) hP⟩
          clear hP hR
          go_wp2
          go_ret2
          exact ⟨[], false, rfl, unhide HU, hb2⟩
        · have q1 : ((k : Int) == 0) = false := by simp; omega
          have HR2 := hide (rd_next (unhide hR) (unhide Hr) hP)
          have es := fun w => str_from rest k hkl w
          have hdl : (rest.drop k).length = rest.length - k := List.length_drop
          generalize rest.drop k = rest2 at *
          clear hP hR Hr
          have hz2 := hb2.size
          go_wp2_with fail
          refine (writeString_calls w1.heap.size w1.heap.size _ _ _ hB2 (by rw [Lib.byteCells_length, str_size]; omega) hz2).mono ?_
          rintro e W3 ⟨rfl, h3, b3, k3⟩
          rw [strC, ← Lib.byteCells_append] at h3
          have hb3 := hb2.trans b3
          go_wp2
          go_roundw
          case rel => exact ⟨rest2, acc ++ p, rfl, by rw [List.length_append]; omega, HR2, Or.inr h3, hb3⟩
          case measure => simp only [str_size]; omega
  · have HU : Hid (UnqIs s [] false) := .inr ⟨rfl, rfl, unhide HNo hb⟩
    clear HY HNo
    have hbb : b1 = false ∨ (b1 = true ∧ b2 = false) := by cases b1 <;> cases b2 <;> simp at hb ⊢
    clear hb
    rcases hbb with rfl | ⟨rfl, rfl⟩
    · go_enter Tryd.func20, Tryd.ntmps20
      go_wp2_with fail
      refine (unhide CP _).mono ?_
      rintro e w1 ⟨rfl, rfl⟩
      go_wp2_with fail
      refine (unhide CS _).mono ?_
      rintro e w1 ⟨rfl, rfl⟩
      go_wp2
      go_ret2
      exact ⟨[], false, rfl, unhide HU, Below.refl _ _⟩
    · go_enter Tryd.func20, Tryd.ntmps20
      go_wp2_with fail
      refine (unhide CP _).mono ?_
      rintro e w1 ⟨rfl, rfl⟩
      go_wp2_with fail
      refine (unhide CS _).mono ?_
      rintro e w1 ⟨rfl, rfl⟩
      go_wp2
      go_ret2
      exact ⟨[], false, rfl, unhide HU, Below.refl _ _⟩
end Go.Proofs.YtdkcgiifldhdeaaDoor
