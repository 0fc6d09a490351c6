/-
  THE WALK OF THE LAW NameKeeps: whatever the text and the number, it returns true, and nothing that was there has turned.
-/
import Derived.Test.YtdkcgiifldhdeaaDoorNameLaw
import Derived.Test.YtdkcgiifldhdeaaDoorNameSays
import Derived.Test.YtdkcgiifldhdeaaDoorToks3
namespace Go.Proofs.YtdkcgiifldhdeaaDoor
open Go.RowKit
set_option linter.unusedSimpArgs false
set_option linter.unusedVariables false

theorem Tab16.below' {w w' : World} (h : Tab16 w) (hb : Below w.heap.size w w') : Tab16 w' := h.below hb (Nat.le_refl _)
theorem good_len : ∀ ts : List Tok, Good ts → ts.length ≤ (flat ts).length
  | [], _ => by simp
  | t :: ts, ⟨h1, _, h3⟩ => by
    have := good_len ts h3
    have h1' : 0 < t.2.length := List.length_pos_iff.2 h1
    rw [flat_cons, List.length_append, List.length_cons]; omega
theorem items_len (l : List UInt8) : (items l).length ≤ l.length := by
  have h := good_len _ (good_of_tk l)
  rw [flat_of_tk] at h
  rw [show (items l).length = (tk l).length by rw [← items_tok, List.length_map]]; exact h
theorem flatMap_len {α : Type} (f : α → List UInt8) (n : Nat) : ∀ xs : List α, (∀ x, (f x).length ≤ n) → (xs.flatMap f).length ≤ n * xs.length
  | [], _ => by simp
  | x :: xs, h => by
    have h1 := flatMap_len f n xs h
    have h2 := h x
    rw [List.flatMap_cons, List.length_append, List.length_cons, Nat.mul_add]; omega
theorem foldItem_len (l : List UInt8) (x : Nat × Nat) : (foldItem l x).length ≤ 4 := by
  unfold foldItem
  split
  · simp
  · split
    · exact enc_le _
    · exact enc_le _
theorem pFold_len (l : List UInt8) : (pFold l).length ≤ 4 * l.length := by
  have h1 := flatMap_len (foldItem l) 4 (items l) (foldItem_len l)
  have h2 := items_len l
  unfold pFold
  omega
set_option maxHeartbeats 4000000 in
set_option maxRecDepth 100000 in
theorem nameKeeps_walk (l : List UInt8) (hl : l.length ≤ maxLen) (cut : Int) (w : World) (tab : Tab16 w) :
    Calls Tryd.prog 8 #[.string (str l), .int .i64 cut] w fun e w' => e = .returned (.bool true) ∧ Below w.heap.size w w' := by
  unfold maxLen at hl
  have HT := hide tab
  clear tab
  by_cases hbig : 2000 < l.length
  · have hd : decide ((2000 : Int) < (l.length : Int)) = true := by simp; omega
    go_enter Tryd.func8, Tryd.ntmps8
    go_wp2_with fail
    refine (nawake_calls _ (unhide HT)).mono ?_
    rintro en w1 ⟨rfl, hb1⟩
    go_wp2_with fail
    refine (nawake_calls _ ((unhide HT).below' hb1)).mono ?_
    rintro en w2 ⟨rfl, hb2⟩
    go_wp2
    go_ret
    exact ⟨rfl, hb1.trans (hb2.mono hb1.size)⟩
  · have hd : decide ((2000 : Int) < (l.length : Int)) = false := by simp; omega
    have hfl := pFold_len l
    have cF := fun w => fold_calls l (by omega) w
    have cFF := fun w => fold_calls (pFold l) (by omega) w
    rw [pFold_twice] at cFF
    have hrf := right_fold l
    have hrs := right_says l
    have hrn := right_ne l
    have hrc := right_cut l
    have cR := fun w => right_calls l (by omega) w
    have cS := fun w => says_calls l (by omega) w
    generalize hF : pFold l = F at *
    have CF := hide cF
    have CFF := hide cFF
    have CR := hide cR
    have CS := hide cS
    clear cF cFF cR cS hfl hF
    go_enter Tryd.func8, Tryd.ntmps8
    go_wp2_with fail
    refine (nawake_calls _ (unhide HT)).mono ?_
    rintro en w1 ⟨rfl, b1⟩
    go_wp2_with fail
    refine (unhide CF _).mono ?_
    rintro en w2 ⟨rfl, hb2⟩
    have b2 := b1.trans (hb2.mono b1.size)
    clear hb2 b1
    go_wp2_with fail
    refine (unhide CFF _).mono ?_
    rintro en w3 ⟨rfl, hb3⟩
    have b3 := b2.trans (hb3.mono b2.size)
    clear hb3 b2
    go_wp2_with fail
    refine (unhide CF _).mono ?_
    rintro en w4 ⟨rfl, hb4⟩
    have b4 := b3.trans (hb4.mono b3.size)
    clear hb4 b3
    go_wp2_with fail
    refine (unhide CR _).mono ?_
    rintro en w5 ⟨rfl, hb5⟩
    have b5 := b4.trans (hb5.mono b4.size)
    clear hb5 b4
    cases hR : pRight l with
    | false =>
      clear hrf hrs hrn hrc
      go_wp2_with fail
      refine (nawake_calls _ ((unhide HT).below' b5)).mono ?_
      rintro en w6 ⟨rfl, hb6⟩
      go_wp2
      go_ret
      exact ⟨rfl, b5.trans (hb6.mono b5.size)⟩
    | true =>
      have eF := hrf hR
      have eS := hrs hR
      have hpos := hrn hR
      have hcut := hrc hR
      subst eF
      obtain ⟨c, hc⟩ : ∃ c : Nat, IntKind.u64.wrap cut = (c : Int) := ⟨(IntKind.u64.wrap cut).toNat, by rw [IntKind.wrap_u64]; omega⟩
      obtain ⟨m, hm, em⟩ : ∃ m : Nat, m < F.length ∧ (c : Int) % (F.length : Int) = (m : Int) := ⟨c % F.length, Nat.mod_lt _ (by omega), by omega⟩
      clear hrf hrs hrn hrc
      go_wp2_with fail
      have es := take_str F (1 + m)
      have hct := hcut (1 + m) (by omega)
      have hlt : (F.take (1 + m)).length ≤ 2000 := by rw [List.length_take]; omega
      rw [es]
      refine (runes_calls (F.take (1 + m)) (by omega) _).mono ?_
      rintro en w6 ⟨rfl, hb6⟩
      have b6 := b5.trans (hb6.mono b5.size)
      have cRt := fun w => right_calls (F.take (1 + m)) (by omega) w
      generalize pRunes (F.take (1 + m)) = ru at *
      generalize pStrays (F.take (1 + m)) = st at *
      generalize pRight (F.take (1 + m)) = rt at *
      have CRt := hide cRt
      have Hct := hide hct
      clear hb6 b5 hcut hct cRt hlt
      go_wp2_with fail
      refine (nawake_calls _ ((unhide HT).below' b6)).mono ?_
      rintro en w7 ⟨rfl, hb7⟩
      have b7 := b6.trans (hb7.mono b6.size)
      clear hb7 b6
      go_wp2_with fail
      refine (unhide CF _).mono ?_
      rintro en w8 ⟨rfl, hb8⟩
      have b8 := b7.trans (hb8.mono b7.size)
      clear hb8 b7
      go_wp2_with fail
      refine (unhide CS _).mono ?_
      rintro en w9 ⟨rfl, hb9⟩
      have b9 := b8.trans (hb9.mono b8.size)
      rw [eS]
      clear hb9 b8 eS
      by_cases hst : 0 < st
      · have d0 : decide (0 < st) = true := by simpa using hst
        go_wp2
        go_ret
        exact ⟨rfl, b9⟩
      · have d0 : decide (0 < st) = false := by simpa using hst
        have hrt : rt = true := (unhide Hct).resolve_left hst
        subst hrt
        go_wp2_with fail
        rw [es]
        refine (unhide CRt _).mono ?_
        rintro en w10 ⟨rfl, hb10⟩
        go_wp2
        go_ret
        exact ⟨rfl, b9.trans (hb10.mono b9.size)⟩
end Go.Proofs.YtdkcgiifldhdeaaDoor
