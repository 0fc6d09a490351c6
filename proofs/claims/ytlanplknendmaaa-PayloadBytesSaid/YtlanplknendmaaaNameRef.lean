/-
  WHAT THE DOCUMENT'S OWN Numbers, Count, Right, Says OF LAYER 2 RETURN.
-/
import Derived.Test.YtlanplknendmaaaNameNums
import Derived.Test.YtlanplknendmaaaToks3
namespace Go.Proofs.Ytlanplknendmaaa
open Go.RowKit
set_option linter.unusedSimpArgs false
set_option linter.unusedVariables false

set_option maxHeartbeats 1000000 in
theorem numbers_calls (l : List UInt8) (hl : l.length ≤ 1000000000) (w : World) :
    Calls Try.prog 53 #[.string (str l)] w fun e w' => ∃ v, e = .returned v ∧ NumsAt w' v (nums l) ∧ Below w.heap.size w w' := by
  have hone := fun a ha w => one_calls l (by omega) a ha w
  have Hone := hide hone
  have hsz : (str l).size = l.length := str_size l
  clear hone
  go_enter Try.func53, Try.ntmps53
  go_wp2
  go_loopw [3, 4] (fun v i wr => ∃ (pos : Nat) (dn : List Tok), pos ≤ l.length ∧ i = .int .i64 (pos : Int) ∧ Hid (tk l = dn ++ tk (l.drop pos)) ∧ dn.length ≤ pos ∧ NBuf w v (dn.map tokNum) wr) (fun _ i _ => l.length - (intOf i).toNat)
  case atStart => exact ⟨0, [], by omega, rfl, by show tk l = _; simp, by simp, ⟨World.ownsRow_nil _ _ _ _, Below.refl _ _⟩⟩
  case round =>
    obtain ⟨pos, dn, hp, rfl, hT, hdn, hB⟩ := hrel
    by_cases hlt : pos < l.length
    · have hd : decide (pos < l.length) = true := by simpa using hlt
      have hne : l.drop pos ≠ [] := by simp; omega
      have hT2 : tk l = (dn ++ [headTok (l.drop pos)]) ++ tk (l.drop (pos + (Lib.decodeL (l.drop pos)).2)) := by
        rw [unhide hT, tk_cons _ hne, List.drop_drop]; simp
      have hw1 := Lib.decodeL_width (l.drop pos)
      have hw2 := Lib.decodeL_le (l.drop pos) hne
      rw [List.length_drop] at hw2
      have hO := unhide Hone pos hlt
      unfold OneIs at hO
      have hmap : (dn ++ [headTok (l.drop pos)]).map tokNum = dn.map tokNum ++ [tokNum (headTok (l.drop pos))] := by simp
      generalize hwd : (Lib.decodeL (l.drop pos)).2 = wd at *
      generalize hht : headTok (l.drop pos) = ht at *
      generalize tokNum ht = N at *
      have HO := hide hO
      have HT2 := hide hT2
      have Hmap := hide hmap
      clear hO hT2 hmap hwd hht hT hne
      go_wp2_with fail
      refine (unhide HO _).mono ?_
      rintro e w' ⟨rfl, rfl⟩
      go_wp2_with (at_builtin; refine wpList_append_n rfl (.tmp 17) (.tmp 19) rfl w (dn.map tokNum) _ rfl w' N hB rfl (by rw [List.length_map]; omega) ?_; intro v2 w2 hB2)
      go_roundw
      case rel => exact ⟨pos + wd, dn ++ [ht], by omega, by go_num, HT2, by simp; omega, by rw [unhide Hmap]; exact hB2⟩
      case measure => simp [intOf]; omega
    · have hd : decide (pos < l.length) = false := by simpa using hlt
      have hT' := unhide hT
      rw [List.drop_of_length_le (by omega), tk_nil, List.append_nil] at hT'
      have hN : nums l = dn.map tokNum := by rw [nums, hT']
      have HN := hide hN
      clear hT hT' hN
      go_wp2
      go_ret
      exact ⟨_, rfl, by rw [unhide HN]; exact hB.numsAt, hB.below⟩
theorem nums_len (l : List UInt8) : (nums l).length = (tk l).length := by simp [nums]
theorem nums_le (l : List UInt8) : (nums l).length ≤ l.length := by
  have h := good_len _ (good_of_tk l)
  rw [flat_of_tk] at h
  rw [nums_len]; exact h
theorem NumsAt.below {w w' : World} {v : Value} {xs : List Nat} (h : NumsAt w v xs) (hb : Below w.heap.size w w') : NumsAt w' v xs := by
  obtain ⟨p, cap, rfl, hp⟩ := h
  refine ⟨p, cap, rfl, fun hx => ?_⟩
  obtain ⟨g, rfl, hg, hc⟩ := hp hx
  exact ⟨g, rfl, Nat.lt_of_lt_of_le hg hb.size, fun j hj => by rw [hb.cell (p := ⟨g, j, none⟩) hg]; exact hc j hj⟩
end Go.Proofs.Ytlanplknendmaaa
