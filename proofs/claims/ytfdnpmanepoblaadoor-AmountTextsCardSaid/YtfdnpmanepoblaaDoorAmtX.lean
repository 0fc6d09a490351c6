/-
  WHAT amount's Read RETURNS.
-/
import Derived.Test.YtfdnpmanepoblaaDoorAmtW
import Derived.Lib.SmallJoins
namespace Go.Proofs.YtfdnpmanepoblaaDoor
open Go Go.RowKit
set_option linter.unusedSimpArgs false
set_option linter.unusedVariables false

def Errs (w : World) : Prop :=
  (∃ ev, w.cell? ⟨2, 0, none⟩ = some ev ∧ (ev = .nilIface ∨ ∃ te pe, ev = .iface te pe)) ∧
  (∃ ev, w.cell? ⟨3, 0, none⟩ = some ev ∧ (ev = .nilIface ∨ ∃ te pe, ev = .iface te pe))
theorem Errs.below {w w' : World} {B : Nat} (h : Errs w) (hb : Below B w w') (hB : w.heap.size ≤ B) : Errs w' := by
  obtain ⟨⟨e1, h1, h2⟩, ⟨e2, h3, h4⟩⟩ := h
  refine ⟨⟨e1, ?_, h2⟩, ⟨e2, ?_, h4⟩⟩
  · rw [hb.cell (p := ⟨2, 0, none⟩) (Nat.lt_of_lt_of_le (block_lt_of_cell h1) hB)]; exact h1
  · rw [hb.cell (p := ⟨3, 0, none⟩) (Nat.lt_of_lt_of_le (block_lt_of_cell h3) hB)]; exact h3
def Pow10 (w : World) : Prop := Lib.TabIs Tryd.prog w "internal/strconv.uint64pow10" .u64 Lib.pow10Tab
theorem Pow10.below {w w' : World} {B : Nat} (h : Pow10 w) (hb : Below B w w') (hB : w.heap.size ≤ B) : Pow10 w' := Go.Joins.tab_stays (g := 4) (by kernel_rfl) h hb hB
set_option maxHeartbeats 2000000 in
set_option maxRecDepth 100000 in
theorem aread_calls (l : List UInt8) (hl : l.length ≤ 1000000) (w : World) (T : Pow10 w) (E : Errs w) :
    Calls Tryd.prog 5 #[.string (str l)] w fun e w' => e = .returned (.tuple #[.int .u64 ((pRead8 l).1 : Int), .bool (pRead8 l).2]) ∧ Below w.heap.size w w' := by
  have hsz : (str l).size = l.length := str_size l
  have hdl : (str l).data.toList = l := str_toList l
  have hs : ∀ a b : List UInt8, ((str a).toList == (str b).toList) = decide (a = b) := fun a b => by
    rw [ByteArray.toList_eq, ByteArray.toList_eq, str_toList, str_toList, Bool.eq_iff_iff]; simp
  cases hp : Lib.parseUintB 64 l with
  | ok u =>
    have hc := Any.strconv_ParseUint_10_at64_ok Tryd.lays14 (str l) (by rw [hsz]; omega) u (by rw [hdl]; exact hp) w
    have hu : u < 18446744073709551616 := by
      unfold Lib.parseUintB at hp
      split at hp
      · cases hp
      · have := parse_le l _ 0 u (Nat.zero_le _) hp
        have e : (2 : Nat) ^ 64 - 1 = 18446744073709551615 := by decide
        omega
    have ht := fun W hW => text_calls u hu W hW
    have hcmp := hs (pDec u) l
    by_cases hd : pDec u = l
    · have hr := pRead8_yes l u (parse_is l u hp hd)
      rw [hr]
      have hne : ((str (pDec u)).toList == (str l).toList) = true := by rw [hcmp]; simp [hd]
      have HC := hide hc
      have HT := hide ht
      have HP := hide T
      generalize pDec u = D at *
      clear hr hp hc ht hs hcmp hd hsz hdl T E
      go_enter Tryd.func5, Tryd.ntmps5
      go_wp2_with fail
      refine (unhide HC).mono ?_
      rintro e w1 ⟨rfl, h1⟩
      have b1 : Below w.heap.size w w1 := by
        rcases h1 with rfl | rfl
        · exact Below.refl _ _
        · exact Lib.bytesWorld_below _ _ _
      clear h1
      go_wp2_with fail
      refine (unhide HT _ ((unhide HP).below b1 (Nat.le_refl _))).mono ?_
      rintro e w2 ⟨rfl, b2⟩
      go_wp2
      go_ret2
      exact ⟨rfl, b1.trans (b2.mono b1.size)⟩
    · have hr := pRead8_no l (fun ⟨v, hv⟩ => by
        have := parse_yes l v hv
        rw [hp] at this
        obtain rfl : u = v := by simpa using this
        exact hd hv.2)
      rw [hr]
      have hne : ((str (pDec u)).toList == (str l).toList) = false := by rw [hcmp]; simp [hd]
      have HC := hide hc
      have HT := hide ht
      have HP := hide T
      generalize pDec u = D at *
      clear hr hp hc ht hs hcmp hd hsz hdl T E
      go_enter Tryd.func5, Tryd.ntmps5
      go_wp2_with fail
      refine (unhide HC).mono ?_
      rintro e w1 ⟨rfl, h1⟩
      have b1 : Below w.heap.size w w1 := by
        rcases h1 with rfl | rfl
        · exact Below.refl _ _
        · exact Lib.bytesWorld_below _ _ _
      clear h1
      go_wp2_with fail
      refine (unhide HT _ ((unhide HP).below b1 (Nat.le_refl _))).mono ?_
      rintro e w2 ⟨rfl, b2⟩
      go_wp2
      go_ret2
      exact ⟨rfl, b1.trans (b2.mono b1.size)⟩
  | «syntax» =>
    obtain ⟨ev, hv, hev⟩ := E.1
    have hc := Any.strconv_ParseUint_10_at64_syntax Tryd.lays14 (str l) (by rw [hsz]; omega) (by rw [hdl]; exact hp) ev w hv hev
    have hr := pRead8_no l (fun ⟨v, hv⟩ => by
      have := parse_yes l v hv
      rw [hp] at this
      cases this)
    rw [hr]
    have HC := hide hc
    clear hr hp hc hs hsz hdl T E hv hev
    go_enter Tryd.func5, Tryd.ntmps5
    go_wp2_with fail
    refine (unhide HC).mono ?_
    rintro e w1 ⟨N, rfl, _, _, b1⟩
    go_wp2
    go_ret2
    exact ⟨rfl, b1⟩
  | range =>
    obtain ⟨ev, hv, hev⟩ := E.2
    have hc := Any.strconv_ParseUint_10_at64_range Tryd.lays14 (str l) (by rw [hsz]; omega) (by rw [hdl]; exact hp) ev w hv hev
    have hr := pRead8_no l (fun ⟨v, hv⟩ => by
      have := parse_yes l v hv
      rw [hp] at this
      cases this)
    rw [hr]
    have HC := hide hc
    clear hr hp hc hs hsz hdl T E hv hev
    go_enter Tryd.func5, Tryd.ntmps5
    go_wp2_with fail
    refine (unhide HC).mono ?_
    rintro e w1 ⟨N, rfl, _, _, b1⟩
    go_wp2
    go_ret2
    exact ⟨rfl, b1⟩
end Go.Proofs.YtfdnpmanepoblaaDoor
