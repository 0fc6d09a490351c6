/-
  WHAT THE DOCUMENT'S OWN Unquote OF LAYER 2 RETURNS: the one text whose quote it is, or none.
-/
import Derived.Test.YtdkcgiifldhdeaaDoorUnqD
import Derived.Test.YtdkcgiifldhdeaaDoorNameRef6
namespace Go.Proofs.YtdkcgiifldhdeaaDoor
open Go.RowKit
set_option linter.unusedSimpArgs false
set_option linter.unusedVariables false

set_option maxHeartbeats 8000000 in
set_option maxRecDepth 100000 in
theorem runquote_calls (s : List UInt8) (hl : s.length ≤ 200000000) (w : World) :
    Calls Tryd.prog 21 #[.string (str s)] w fun e w' => ∃ r ok, e = .returned (.tuple #[.string (str r), .bool ok]) ∧ UnqIs s r ok ∧ Below w.heap.size w w' := by
  have hz : (str s).size = s.length := str_size s
  have hix := str_index s
  have NO : Hid (∀ r ok, (∀ t, pQuote t ≠ s) → (r = [] ∧ ok = false) → UnqIs s r ok) := hide fun r ok h hr => .inr ⟨hr.2, hr.1, h⟩
  by_cases hbad : s.length < 2 ∨ s.getD 0 0 ≠ 34 ∨ s.getD (s.length - 1) 0 ≠ 34
  · have HU := hide (unhide NO [] false (quote_no s hbad) ⟨rfl, rfl⟩)
    by_cases b0 : s.length < 2
    · have d2 : decide ((s.length : Int) < 2) = true := by simp; omega
      go_enter Tryd.func21, Tryd.ntmps21
      go_wp2
      go_ret2
      exact ⟨[], false, rfl, unhide HU, Below.refl _ _⟩
    · have d2 : decide ((s.length : Int) < 2) = false := by simp; omega
      have hi0 : ∀ w, (Instr.index 9 (.string (str s)) (.int .i64 0)).run Tryd.prog w = .ok (.int .u8 ((s.getD 0 0).toNat : Int)) w := fun w => hix 0 (by omega) w
      have hiL : ∀ w, (Instr.index 9 (.string (str s)) (.int .i64 ((s.length : Int) - 1))).run Tryd.prog w = .ok (.int .u8 ((s.getD (s.length - 1) 0).toNat : Int)) w := fun w => by
        have := hix (s.length - 1) (by omega) w
        rw [show ((s.length - 1 : Nat) : Int) = (s.length : Int) - 1 by omega] at this; exact this
      by_cases c0 : s.getD 0 0 = 34
      · have q0 : (((s.getD 0 0).toNat : Int) == 34) = true := by rw [c0]; rfl
        have q1 : (((s.getD (s.length - 1) 0).toNat : Int) == 34) = false := by
          refine (u8_eq _ 34 (by omega)).trans (decide_eq_false ?_)
          intro h
          rcases hbad with h' | h' | h'
          · exact b0 h'
          · exact h' c0
          · exact h' h
        generalize s.getD 0 0 = x0 at *
        generalize s.getD (s.length - 1) 0 = x1 at *
        have r0 : ((x0.toNat : Int) != 34) = false := by simp only [bne, q0]; rfl
        have r1 : ((x1.toNat : Int) != 34) = true := by simp only [bne, q1]; rfl
        clear hbad hix b0 c0
        go_enter Tryd.func21, Tryd.ntmps21
        go_wp2
        go_ret2
        exact ⟨[], false, rfl, unhide HU, Below.refl _ _⟩
      · have q0 : (((s.getD 0 0).toNat : Int) == 34) = false := (u8_eq _ 34 (by omega)).trans (decide_eq_false c0)
        generalize s.getD 0 0 = x0 at *
        have r0 : ((x0.toNat : Int) != 34) = true := by simp only [bne, q0]; rfl
        clear hbad hix b0 c0 hiL
        go_enter Tryd.func21, Tryd.ntmps21
        go_wp2
        go_ret2
        exact ⟨[], false, rfl, unhide HU, Below.refl _ _⟩
  · have h2 : 2 ≤ s.length := by omega
    have hi0 : ∀ w, (Instr.index 9 (.string (str s)) (.int .i64 0)).run Tryd.prog w = .ok (.int .u8 34) w := fun w => by
      have := hix 0 (by omega) w
      rw [show s.getD 0 0 = 34 from Classical.byContradiction fun h => hbad (.inr (.inl h))] at this; exact this
    have hiL : ∀ w, (Instr.index 9 (.string (str s)) (.int .i64 ((s.length : Int) - 1))).run Tryd.prog w = .ok (.int .u8 34) w := fun w => by
      have := hix (s.length - 1) (by omega) w
      rw [show s.getD (s.length - 1) 0 = 34 from Classical.byContradiction fun h => hbad (.inr (.inr h)), show ((s.length - 1 : Nat) : Int) = (s.length : Int) - 1 by omega] at this; exact this
    have HS := hide (rdD_start s)
    have Hix := hide hix
    clear hbad hix
    have d2 : decide ((s.length : Int) < 2) = false := by simp; omega
    go_enter Tryd.func21, Tryd.ntmps21
    go_wp2
    clear hi0 hiL
    go_loopw [4, 5, 6, 7, 8, 9] (fun v i kd nn kk dd wr => ∃ (pos : Nat) (acc : List UInt8), 1 ≤ pos ∧ pos ≤ s.length ∧ i = .int .i64 (pos : Int) ∧ acc.length ≤ 4 * pos ∧ Hid (RdD s pos acc) ∧ Buf w w.heap.size acc v wr) (fun _ i _ _ _ _ _ => s.length - (intOf i).toNat)
    case atStart => exact ⟨1, [], by omega, by omega, rfl, by simp, HS, ⟨World.ownsRowF_nil _ _ _ _, Below.refl _ _, Nat.le_refl _⟩⟩
    case round =>
      obtain ⟨pos, acc, hp1, hpl, rfl, hal, hR, hB⟩ := hrel
      by_cases hlt : pos + 1 < s.length
      · have hd : decide ((pos : Int) < (s.length : Int) - 1) = true := by simp; omega
        have hi := unhide Hix pos (by omega)
        have hi1 : ∀ w, (Instr.index 9 (.string (str s)) (.int .i64 ((pos : Int) + 1))).run Tryd.prog w = .ok (.int .u8 ((s.getD (pos + 1) 0).toNat : Int)) w := fun w => by
          have := unhide Hix (pos + 1) (by omega) w
          rw [Int.natCast_add] at this; exact this
        by_cases c0 : s.getD pos 0 = 92
        · have q0 : (((s.getD pos 0).toNat : Int) == 92) = true := by rw [c0]; rfl
          by_cases c1 : s.getD (pos + 1) 0 = 34 ∨ s.getD (pos + 1) 0 = 92
          · have HR2 := hide (rdD_next (unhide hR) hlt (dp_two s pos hlt c0 c1))
            have q1 : (((s.getD (pos + 1) 0).toNat : Int) == 34) = true ∨ ((((s.getD (pos + 1) 0).toNat : Int) == 34) = false ∧ (((s.getD (pos + 1) 0).toNat : Int) == 92) = true) := by
              rcases c1 with c1 | c1
              · left; rw [c1]; rfl
              · right; rw [c1]; exact ⟨rfl, rfl⟩
            generalize s.getD pos 0 = b0 at *
            generalize s.getD (pos + 1) 0 = b1 at *
            clear c0 c1 hR
            rcases q1 with q1 | ⟨q1, q2⟩
            · go_wp2_with (at_builtin; refine wpList_append_b rfl (.tmp 56) (.tmp 60) rfl w w.heap.size acc _ rfl wr _ b1 rfl hB rfl (by omega) ?_; intro g2 cap2 w2 hB2)
              go_roundw
              case rel => exact ⟨pos + 2, acc ++ [b1], by omega, by omega, by go_num, by rw [List.length_append]; show _ + 1 ≤ _; omega, HR2, hB2⟩
              case measure => simp [intOf]; omega
            · go_wp2_with (at_builtin; refine wpList_append_b rfl (.tmp 56) (.tmp 60) rfl w w.heap.size acc _ rfl wr _ b1 rfl hB rfl (by omega) ?_; intro g2 cap2 w2 hB2)
              go_roundw
              case rel => exact ⟨pos + 2, acc ++ [b1], by omega, by omega, by go_num, by rw [List.length_append]; show _ + 1 ≤ _; omega, HR2, hB2⟩
              case measure => simp [intOf]; omega
          · have q1 : (((s.getD (pos + 1) 0).toNat : Int) == 34) = false := by
              refine (u8_eq _ 34 (by omega)).trans (decide_eq_false ?_); intro h; exact c1 (.inl h)
            have q2 : (((s.getD (pos + 1) 0).toNat : Int) == 92) = false := by
              refine (u8_eq _ 92 (by omega)).trans (decide_eq_false ?_); intro h; exact c1 (.inr h)
            have FE := hide fun j => dn_end s pos j _ c0 rfl c1
            have FD := hide fun j => dn_digit s pos j _ c0 rfl c1
            have FL := hide fun j => dn_long s pos j _ c0 rfl c1
            have FZ := hide (dn_zero s pos _ c0 rfl c1)
            have FK := hide fun j N => dn_kind s pos j N _ c0 rfl c1
            have FX := hide fun j N h => dp_x s pos j N c0 h
            have FU := hide fun j N h => dp_u s pos j N c0 h
            have FN := hide (rdD_none (unhide hR) hlt)
            have FP := hide fun p k => rdD_next (p := p) (k := k) (unhide hR) hlt
            generalize s.getD pos 0 = b0 at *
            generalize s.getD (pos + 1) 0 = kd at *
            clear c0 c1 hR
            go_wp2
            go_loopw [5, 7, 8, 9] (fun i nn kk dd wr2 => ∃ P j n : Nat, Hid (P = pos + 2 + j) ∧ j ≤ 7 ∧ P ≤ s.length ∧ i = .int .i64 (P : Int) ∧ nn = .int .i64 (n : Int) ∧ kk = .int .i64 (j : Int) ∧ Hid (n = hexFold 0 ((s.drop (pos + 2)).take j)) ∧ Hid (HexAll ((s.drop (pos + 2)).take j)) ∧ Hid (n < 16 ^ j) ∧ wr2 = wr) (fun _ _ kk _ _ => 7 - (intOf kk).toNat)
            case atStart => exact ⟨pos + 2, 0, 0, rfl, by omega, by omega, by go_num, rfl, rfl, rfl, fun c hc => by simp at hc, by show 0 < 16 ^ 0; decide, rfl⟩
            case round =>
              obtain ⟨P, j, n, hP, hj, hPl, rfl, rfl, rfl, hN, hX, hn, rfl⟩ := hrel
              have hb := hB.2.1
              have hn7 := pow16 n j hj (unhide hn)
              by_cases e1 : P + 1 < s.length
              · have f1 : decide ((P : Int) < (s.length : Int) - 1) = true := by simp; omega
                have f1' : decide ((s.length : Int) - 1 ≤ (P : Int)) = false := by simp; omega
                have hiP := unhide Hix P (by omega)
                by_cases e2 : s.getD P 0 = 59
                · have f2 : (((s.getD P 0).toNat : Int) == 59) = true := by rw [e2]; rfl
                  have e2' : s.getD (pos + 2 + j) 0 = 59 := by rw [← unhide hP]; exact e2
                  generalize s.getD P 0 = x at *
                  have f2n : ((x.toNat : Int) != 59) = false := by simp only [bne, f2]; rfl
                  clear e2
                  by_cases e3 : j = 0
                  · subst e3
                    have HU := hide (unhide NO [] false (unhide FN (unhide FZ e2')) ⟨rfl, rfl⟩)
                    clear e2' hN hX hn
                    go_wp2
                    go_ret2
                    exact ⟨[], false, rfl, unhide HU, hb⟩
                  · have f3 : ((j : Int) == 0) = false := by simp; omega
                    by_cases e4 : 6 < j
                    · have f4 : decide ((6 : Int) < (j : Int)) = true := by simp; omega
                      have HU := hide (unhide NO [] false (unhide FN (unhide FL j (unhide hX) e4)) ⟨rfl, rfl⟩)
                      clear e2' hN hX hn
                      go_wp2
                      go_ret2
                      exact ⟨[], false, rfl, unhide HU, hb⟩
                    · have f4 : decide ((6 : Int) < (j : Int)) = false := by simp; omega
                      have hj0 : 0 < j := by omega
                      have hPe := unhide hP
                      have hPj : pos + (j + 3) = P + 1 := by omega
                      have hPp : pos + 2 ≤ P := by omega
                      by_cases k1 : kd = 120
                      · have g1 : ((kd.toNat : Int) == 120) = true := by rw [k1]; rfl
                        have g1u : ((kd.toNat : Int) == 117) = false := by rw [k1]; rfl
                        by_cases k2 : n ≤ 255
                        · have g2 : decide ((n : Int) ≤ 255) = true := by simp; omega
                          have HR2 := hide (unhide FP _ _ (unhide FX j n k1 (unhide hX) (unhide hN) e2'))
                          rw [hPj] at HR2
                          have m1 : (n : Int) % 256 = (n : Int) := by omega
                          have m2 := ofNat_small n (by omega)
                          have M2 := hide m2
                          generalize UInt8.ofNat n = y at *
                          clear e2' hN hX hn hPe hPj k1 m2
                          go_wp2_with (at_builtin; refine wpList_append_b rfl (.tmp 142) (.tmp 145) rfl w w.heap.size acc _ rfl wr _ y (unhide M2) hB rfl (by omega) ?_; intro g2 cap2 w2 hB2)
                          go_roundw
                          case rel => exact ⟨P + 1, acc ++ [y], by omega, by omega, by go_num, by rw [List.length_append]; show _ + 1 ≤ _; omega, HR2, hB2⟩
                          case measure => simp [intOf]; omega
                        · have g2 : decide ((n : Int) ≤ 255) = false := by simp; omega
                          have HU := hide (unhide NO [] false (unhide FN (unhide FK j n (unhide hX) (unhide hN) e2' (by rintro (⟨_, h⟩ | ⟨h, _⟩); exact k2 h; rw [k1] at h; exact absurd h (by decide)))) ⟨rfl, rfl⟩)
                          clear e2' hN hX hn hPe hPj k1
                          go_wp2
                          go_ret2
                          exact ⟨[], false, rfl, unhide HU, hb⟩
                      · have g1 : ((kd.toNat : Int) == 120) = false := (u8_eq _ 120 (by omega)).trans (decide_eq_false k1)
                        by_cases k3 : kd = 117
                        · have g3 : ((kd.toNat : Int) == 117) = true := by rw [k3]; rfl
                          by_cases k2 : n ≤ 1114111
                          · have g2 : decide ((n : Int) ≤ 1114111) = true := by simp; omega
                            have HR2 := hide (unhide FP _ _ (unhide FU j n k3 (unhide hX) (unhide hN) e2'))
                            rw [hPj] at HR2
                            have hu4 := pUtf8_len n
                            have cU := fun w => rutf8_calls n k2 w
                            generalize pUtf8 n = y at *
                            clear e2' hN hX hn hPe hPj k3 k1
                            go_wp2_with fail
                            refine (cU _).mono ?_
                            rintro e w3 ⟨rfl, rfl⟩
                            have hB3 : Buf w w.heap.size acc _ _ := Lib.OwnBuf.alloc hB (.cells (bc y) 5)
                            have hby := bytes_alloc wr y 5
                            go_wp2_with (at_builtin; refine wpList_append_m rfl (.tmp 153) (.tmp 155) rfl w w.heap.size acc _ rfl _ y _ 0 _ hB3 rfl hby (by omega) ?_; intro v2 w2 hB2)
                            go_roundw
                            case rel => exact ⟨P + 1, acc ++ y, by omega, by omega, by go_num, by rw [List.length_append]; omega, HR2, hB2⟩
                            case measure => simp [intOf]; omega
                          · have g2 : decide ((n : Int) ≤ 1114111) = false := by simp; omega
                            have HU := hide (unhide NO [] false (unhide FN (unhide FK j n (unhide hX) (unhide hN) e2' (by rintro (⟨h, _⟩ | ⟨_, h⟩); exact k1 h; exact k2 h))) ⟨rfl, rfl⟩)
                            clear e2' hN hX hn hPe hPj k3 k1
                            go_wp2
                            go_ret2
                            exact ⟨[], false, rfl, unhide HU, hb⟩
                        · have g3 : ((kd.toNat : Int) == 117) = false := (u8_eq _ 117 (by omega)).trans (decide_eq_false k3)
                          have HU := hide (unhide NO [] false (unhide FN (unhide FK j n (unhide hX) (unhide hN) e2' (by rintro (⟨h, _⟩ | ⟨h, _⟩); exact k1 h; exact k3 h))) ⟨rfl, rfl⟩)
                          clear e2' hN hX hn hPe hPj k3 k1
                          go_wp2
                          go_ret2
                          exact ⟨[], false, rfl, unhide HU, hb⟩
                · have f2 : (((s.getD P 0).toNat : Int) == 59) = false := (u8_eq _ 59 (by omega)).trans (decide_eq_false e2)
                  by_cases e3 : j < 7
                  · have f3 : decide ((j : Int) < 7) = true := by simp; omega
                    have hPe := unhide hP
                    have ht := hex_take s (pos + 2) j (by omega)
                    rw [← hPe] at ht
                    have hval : hexv (s.getD P 0) < 16 → hexFold 0 ((s.drop (pos + 2)).take (j + 1)) = 16 * n + hexv (s.getD P 0) ∧ HexAll ((s.drop (pos + 2)).take (j + 1)) := fun h => by
                      rw [ht]; exact ⟨by rw [hexFold_snoc, ← unhide hN], hexAll_snoc _ _ (unhide hX) h⟩
                    have hbad : ¬ hexv (s.getD P 0) < 16 → DNone s pos := fun h => unhide FD j (unhide hX) (by rw [← hPe]; exact h) (by rw [← hPe]; exact e2)
                    have hx8 := (s.getD P 0).toNat_lt
                    have hvd : hexv (s.getD P 0) = (if 48 ≤ (s.getD P 0).toNat ∧ (s.getD P 0).toNat ≤ 57 then (s.getD P 0).toNat - 48 else if 97 ≤ (s.getD P 0).toNat ∧ (s.getD P 0).toNat ≤ 102 then (s.getD P 0).toNat - 87 else 16) := rfl
                    have f2n : (((s.getD P 0).toNat : Int) != 59) = true := by simp only [bne, f2]; rfl
                    have hnn := unhide hn
                    generalize hexv (s.getD P 0) = hv at *
                    generalize (s.getD P 0).toNat = x at *
                    clear e2 ht
                    by_cases c1 : 48 ≤ x ∧ x ≤ 57
                    · rw [if_pos c1] at hvd
                      obtain ⟨v1, v2⟩ := hval (by omega)
                      have hp2 := pow16_next n j hv hnn (by omega)
                      have V1 : Hid (16 * n + hv = hexFold 0 ((s.drop (pos + 2)).take (j + 1))) := hide v1.symm
                      have V2 := hide v2
                      have V3 : Hid (P + 1 = pos + 2 + (j + 1)) := by show _ = _; omega
                      have HP2 := hide hp2
                      have g1 : decide ((48 : Int) ≤ (x : Int)) = true := by simp; omega
                      have g2 : decide ((x : Int) ≤ 57) = true := by simp; omega
                      have g3 : decide ((97 : Int) ≤ (x : Int)) = false := by simp; omega
                      have hv1 : (x : Int) - 48 = (hv : Int) := by omega
                      have hv0 : ¬ (hv : Int) < 0 := by omega
                      have hv9 : hv < 16 := by omega
                      clear hval hbad hvd v1 v2 hp2 hnn hPe hN hX hn c1
                      go_wp2
                      go_roundw
                      case rel => exact ⟨P + 1, j + 1, 16 * n + hv, V3, by omega, by omega, by go_num, by go_num, by go_num, V1, V2, HP2, trivial⟩
                      case measure => simp [intOf]; omega
                    · rw [if_neg c1] at hvd
                      by_cases c2 : 97 ≤ x ∧ x ≤ 102
                      · rw [if_pos c2] at hvd
                        obtain ⟨v1, v2⟩ := hval (by omega)
                        have hp2 := pow16_next n j hv hnn (by omega)
                        have V1 : Hid (16 * n + hv = hexFold 0 ((s.drop (pos + 2)).take (j + 1))) := hide v1.symm
                        have V2 := hide v2
                        have V3 : Hid (P + 1 = pos + 2 + (j + 1)) := by show _ = _; omega
                        have HP2 := hide hp2
                        have g1 : decide ((48 : Int) ≤ (x : Int)) = true := by simp; omega
                        have g2 : decide ((x : Int) ≤ 57) = false := by simp; omega
                        have g3 : decide ((97 : Int) ≤ (x : Int)) = true := by simp; omega
                        have g4 : decide ((x : Int) ≤ 102) = true := by simp; omega
                        have hv1 : (x : Int) - 97 + 10 = (hv : Int) := by omega
                        have hv0 : ¬ (hv : Int) < 0 := by omega
                        have hv9 : hv < 16 := by omega
                        clear hval hbad hvd v1 v2 hp2 hnn hPe hN hX hn c1
                        go_wp2
                        go_roundw
                        case rel => exact ⟨P + 1, j + 1, 16 * n + hv, V3, by omega, by omega, by go_num, by go_num, by go_num, V1, V2, HP2, trivial⟩
                        case measure => simp [intOf]; omega
                      · rw [if_neg c2] at hvd
                        have HU := hide (unhide NO [] false (unhide FN (hbad (by omega))) ⟨rfl, rfl⟩)
                        clear hval hbad hvd hnn hPe hN hX hn
                        have hsub : x < 48 ∨ (48 ≤ x ∧ 57 < x ∧ x < 97) ∨ (48 ≤ x ∧ 57 < x ∧ 97 ≤ x ∧ 102 < x) := by omega
                        clear c1 c2
                        rcases hsub with c3 | c3 | c3
                        · have g1 : decide ((48 : Int) ≤ (x : Int)) = false := by simp; omega
                          have g3 : decide ((97 : Int) ≤ (x : Int)) = false := by simp; omega
                          go_wp2
                          go_ret2
                          exact ⟨[], false, rfl, unhide HU, hb⟩
                        · have g1 : decide ((48 : Int) ≤ (x : Int)) = true := by simp; omega
                          have g2 : decide ((x : Int) ≤ 57) = false := by simp; omega
                          have g3 : decide ((97 : Int) ≤ (x : Int)) = false := by simp; omega
                          go_wp2
                          go_ret2
                          exact ⟨[], false, rfl, unhide HU, hb⟩
                        · have g1 : decide ((48 : Int) ≤ (x : Int)) = true := by simp; omega
                          have g2 : decide ((x : Int) ≤ 57) = false := by simp; omega
                          have g3 : decide ((97 : Int) ≤ (x : Int)) = true := by simp; omega
                          have g4 : decide ((x : Int) ≤ 102) = false := by simp; omega
                          go_wp2
                          go_ret2
                          exact ⟨[], false, rfl, unhide HU, hb⟩
                  · have f3 : decide ((j : Int) < 7) = false := by simp; omega
                    have f4 : decide ((6 : Int) < (j : Int)) = true := by simp; omega
                    have f5 : ((j : Int) == 0) = false := by simp; omega
                    have HU := hide (unhide NO [] false (unhide FN (unhide FL j (unhide hX) (by omega))) ⟨rfl, rfl⟩)
                    generalize s.getD P 0 = x at *
                    have f2n : ((x.toNat : Int) != 59) = true := by simp only [bne, f2]; rfl
                    clear hN hX hn e2
                    go_wp2
                    go_ret2
                    exact ⟨[], false, rfl, unhide HU, hb⟩
              · have f1 : decide ((P : Int) < (s.length : Int) - 1) = false := by simp; omega
                have f1' : decide ((s.length : Int) - 1 ≤ (P : Int)) = true := by simp; omega
                have HU := hide (unhide NO [] false (unhide FN (unhide FE j (unhide hX) (by have := unhide hP; omega))) ⟨rfl, rfl⟩)
                clear hN hX hn
                go_wp2
                go_ret2
                exact ⟨[], false, rfl, unhide HU, hb⟩
        · have q0 : (((s.getD pos 0).toNat : Int) == 92) = false := (u8_eq _ 92 (by omega)).trans (decide_eq_false c0)
          have HR2 := hide (rdD_next (unhide hR) hlt (dp_plain s pos (by omega) c0))
          generalize s.getD pos 0 = b0 at *
          clear c0 hR hi1
          go_wp2_with (at_builtin; refine wpList_append_b rfl (.tmp 38) (.tmp 42) rfl w w.heap.size acc _ rfl wr _ b0 rfl hB rfl (by omega) ?_; intro g2 cap2 w2 hB2)
          go_roundw
          case rel => exact ⟨pos + 1, acc ++ [b0], by omega, by omega, by go_num, by rw [List.length_append]; show _ + 1 ≤ _; omega, HR2, hB2⟩
          case measure => simp [intOf]; omega
      · have hd : decide ((pos : Int) < (s.length : Int) - 1) = false := by simp; omega
        have hend := rdD_end (unhide hR) (by omega)
        have hcv := hB.convert
        have hb := hB.2.1
        by_cases hq : pQuote acc = s
        · have hc : ((str (pQuote acc)).toList == (str s).toList) = true := by rw [hq]; simp
          have HU : Hid (UnqIs s acc true) := .inl ⟨rfl, hq, hend⟩
          clear hend hR hq
          go_wp2_with fail
          refine (rquote_calls acc (by omega) _).mono ?_
          rintro e W3 ⟨rfl, b3⟩
          go_wp2
          go_ret2
          exact ⟨acc, true, rfl, unhide HU, hb.trans (b3.mono hb.size)⟩
        · have hc : ((str (pQuote acc)).toList == (str s).toList) = false := by
            rw [ByteArray.toList_eq, ByteArray.toList_eq, str_toList, str_toList]; simpa using hq
          have HU : Hid (UnqIs s [] false) := .inr ⟨rfl, rfl, fun t ht => hq (by rw [← hend t ht]; exact ht)⟩
          clear hend hR hq
          go_wp2_with fail
          refine (rquote_calls acc (by omega) _).mono ?_
          rintro e W3 ⟨rfl, b3⟩
          go_wp2
          go_ret2
          exact ⟨[], false, rfl, unhide HU, hb.trans (b3.mono hb.size)⟩
end Go.Proofs.YtdkcgiifldhdeaaDoor
