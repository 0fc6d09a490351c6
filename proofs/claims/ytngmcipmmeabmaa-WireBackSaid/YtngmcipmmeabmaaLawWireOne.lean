/-
  THE WALK OF THE LAW WireOne: whatever the text and the bound, it returns true, and nothing that was there has turned.
-/
import Derived.Test.YtngmcipmmeabmaaWireLaw
import Derived.Test.YtngmcipmmeabmaaWireP
namespace Go.Proofs.Ytngmcipmmeabmaa
open Go.RowKit
set_option linter.unusedSimpArgs false
set_option linter.unusedVariables false

theorem over_calls (l : List UInt8) (w : World) :
    Calls Try.prog 21 #[.string (str l)] w fun e w' => e = .returned (.pointer (some ⟨w.heap.size, 0, none⟩)) ∧ RdAt w' w.heap.size ⟨l, 0⟩ ∧ Below w.heap.size w w' := by
  go_enter Try.func21, Try.ntmps21
  go_wp2
  go_ret
  exact ⟨rfl, al1 _ _, (Below.refl _ _).alloc (Nat.le_refl _) _⟩

/-- A text read, and written. -/
theorem one_text (l : List UInt8) (hl : l.length ≤ 20000) (most : Int) : ((⟨l, 0⟩ : Rd).text most).2.end' = 0 → pText4 ((⟨l, 0⟩ : Rd).text most).1 = l := fun h => by
  obtain ⟨h0, h1⟩ := Rd.end_ok _ h
  have := (Rd.text_ok ⟨l, 0⟩ most h0).2
  rw [h1, List.append_nil] at this
  exact this.symm
theorem one_digests (l : List UInt8) (most : Int) : ((⟨l, 0⟩ : Rd).digests most).2.end' = 0 → pDigests ((⟨l, 0⟩ : Rd).digests most).1 = l := fun h => by
  obtain ⟨h0, h1⟩ := Rd.end_ok _ h
  have := (Rd.digests_ok ⟨l, 0⟩ most h0).2
  rw [h1, List.append_nil] at this
  exact this.symm
theorem one_sig (l : List UInt8) : (⟨l, 0⟩ : Rd).d3.2.end' = 0 → (⟨l, 0⟩ : Rd).d3.2.err = 0 ∧ pSig (((⟨l, 0⟩ : Rd).num 4).1 : Int) (⟨l, 0⟩ : Rd).d1.1 (⟨l, 0⟩ : Rd).d2.1 (⟨l, 0⟩ : Rd).d3.1 = l := fun h => by
  obtain ⟨h0, h1⟩ := Rd.end_ok _ h
  have := (Rd.sig_ok ⟨l, 0⟩ h0).2.2
  rw [h1, List.append_nil] at this
  exact ⟨h0, this.symm⟩

set_option maxHeartbeats 4000000 in
set_option maxRecDepth 100000 in
theorem wireOne_walk (l : List UInt8) (hl : l.length ≤ maxLen) (most : Int) (w : World) :
    Calls Try.prog 5 #[.string (str l), .int .i64 most] w fun e w' => e = .returned (.bool true) ∧ Below w.heap.size w w' := by
  unfold maxLen at hl
  by_cases hbig : 20000 < l.length
  · have hd : decide ((20000 : Int) < (l.length : Int)) = true := by simp; omega
    go_enter Try.func5, Try.ntmps5
    go_wp2_with fail
    refine (wawake_calls _).mono ?_
    rintro en w1 ⟨rfl, hb1⟩
    go_wp2_with fail
    refine (wawake_calls _).mono ?_
    rintro en w2 ⟨rfl, hb2⟩
    go_wp2
    go_ret
    exact ⟨rfl, hb1.trans (hb2.mono hb1.size)⟩
  · have hd : decide ((20000 : Int) < (l.length : Int)) = false := by simp; omega
    have hl2 : l.length ≤ 20000 := by omega
    have o1 := one_text l hl2 most
    have cT := fun g w (h : RdAt w g ⟨l, 0⟩) => rdtext_calls g ⟨l, 0⟩ (by show l.length ≤ _; omega) most w h
    have lT : ((⟨l, 0⟩ : Rd).text most).1.length ≤ 20000 := by
      have h1 := Rd.take_length ((⟨l, 0⟩ : Rd).len most).2 ((⟨l, 0⟩ : Rd).len most).1
      rcases Rd.take_whole ((⟨l, 0⟩ : Rd).len most).2 ((⟨l, 0⟩ : Rd).len most).1 with h0 | h0
      · show (Rd.take _ _).1.length ≤ _; omega
      · show (Rd.take _ _).1.length ≤ _
        have h2 := Rd.len_rest ⟨l, 0⟩ most
        have h3 : (⟨l, 0⟩ : Rd).rest.length = l.length := rfl
        unfold Rd.take at *
        split
        · simp
        · split
          · simp
          · simp; omega
    generalize ((⟨l, 0⟩ : Rd).text most).1 = t at *
    generalize ((⟨l, 0⟩ : Rd).text most).2 = rt at *
    have o2 := one_digests l most
    have cD := fun g w (h : RdAt w g ⟨l, 0⟩) => rdigests_calls g ⟨l, 0⟩ (by show l.length ≤ _; omega) most w h
    generalize hdg : ((⟨l, 0⟩ : Rd).digests most).1 = dg at *
    generalize hrd : ((⟨l, 0⟩ : Rd).digests most).2 = rd at *
    have o3 := one_sig l
    have cS := fun g w (h : RdAt w g ⟨l, 0⟩) => rsig_calls g ⟨l, 0⟩ (by show l.length ≤ _; omega) w h
    generalize ((⟨l, 0⟩ : Rd).num 4).1 = m at *
    generalize (⟨l, 0⟩ : Rd).d1.1 = d1 at *
    generalize (⟨l, 0⟩ : Rd).d2.1 = d2 at *
    generalize (⟨l, 0⟩ : Rd).d3.1 = d3 at *
    generalize (⟨l, 0⟩ : Rd).d3.2 = rs at *
    have CT := hide cT
    have CD := hide cD
    have CS := hide cS
    have O3 := hide o3
    clear cT cD cS hdg hrd o3
    by_cases e1 : rt.end' = 0
    case' pos =>
      have et := o1 e1
      have cW : ∀ w, Calls Try.prog 15 #[.string (str t)] w fun e w' => e = .returned (.string (str l)) ∧ Below w.heap.size w w' := fun w => by
        have := wtext_calls t (by omega) w
        rw [et] at this; exact this
      have CW := hide cW
      clear o1 et cW
      go_enter Try.func5, Try.ntmps5
      go_wp2_with fail
      refine (wawake_calls _).mono ?_
      rintro en w1 ⟨rfl, hb1⟩
      go_wp2_with fail
      refine (over_calls l _).mono ?_
      rintro en w2 ⟨rfl, r2, hb2⟩
      go_wp2_with fail
      refine (unhide CT _ _ r2).mono ?_
      rintro en w3 ⟨rfl, r3, t3⟩
      go_wp2_with fail
      refine (rend_calls _ _ _ r3).mono ?_
      rintro en w3' ⟨rfl, rfl⟩
      rw [e1]
      have b3 : Below w.heap.size w w3' := t3.under (hb1.trans (hb2.mono hb1.size)) hb1.size
      clear hb1 hb2 r2 r3 t3 e1
      go_wp2_with fail
      refine (unhide CW _).mono ?_
      rintro en w4 ⟨rfl, hb4⟩
      have b4 := b3.trans (hb4.mono b3.size)
      clear hb4 b3 CW
    case' neg =>
      have ee : (rt.end' == 0) = false := by simpa using e1
      clear o1 e1
      go_enter Try.func5, Try.ntmps5
      go_wp2_with fail
      refine (wawake_calls _).mono ?_
      rintro en w1 ⟨rfl, hb1⟩
      go_wp2_with fail
      refine (over_calls l _).mono ?_
      rintro en w2 ⟨rfl, r2, hb2⟩
      go_wp2_with fail
      refine (unhide CT _ _ r2).mono ?_
      rintro en w3 ⟨rfl, r3, t3⟩
      go_wp2_with fail
      refine (rend_calls _ _ _ r3).mono ?_
      rintro en w4 ⟨rfl, rfl⟩
      have b4 : Below w.heap.size w w4 := t3.under (hb1.trans (hb2.mono hb1.size)) hb1.size
      clear hb1 hb2 r2 r3 t3
    all_goals
      go_wp2_with fail
      refine (over_calls l _).mono ?_
      rintro en w5 ⟨rfl, r5, hb5⟩
      go_wp2_with fail
      refine (unhide CD _ _ r5).mono ?_
      rintro en w6 ⟨x6, k6, rfl, hk6, hx6, row6, r6, t6⟩
      go_wp2_with fail
      refine (rend_calls _ _ _ r6).mono ?_
      rintro en w6' ⟨rfl, rfl⟩
      have b6 : Below w.heap.size w w6' := t6.under (b4.trans (hb5.mono b4.size)) b4.size
      have D6 := digs_row hk6 row6
      clear hb5 r5 r6 t6 b4 hx6 row6 CT
      by_cases e2 : rd.end' = 0
      case' pos =>
        have ed := o2 e2
        rw [e2]
        have hdl : dg.length ≤ 20000 := by
          have := congrArg List.length ed
          rw [pDigests_length] at this; omega
        have cW : ∀ w, Digs w (.slice (some ⟨x6, 0, none⟩) k6 k6) dg → Calls Try.prog 17 #[.slice (some ⟨x6, 0, none⟩) k6 k6] w fun e w' => e = .returned (.string (str l)) ∧ Below w.heap.size w w' := fun w hD => by
          have := wdigests_calls _ dg (by omega) w hD
          rw [ed] at this; exact this
        have CW := hide cW
        clear o2 ed cW hk6 e2 hdl
        go_wp2_with fail
        refine (unhide CW _ D6).mono ?_
        rintro en w7 ⟨rfl, hb7⟩
        have b7 := b6.trans (hb7.mono b6.size)
        clear hb7 b6 CW D6
      case' neg =>
        have ee2 : (rd.end' == 0) = false := by simpa using e2
        have b7 := b6
        clear o2 hk6 e2 D6 b6
      all_goals
        go_wp2_with fail
        refine (over_calls l _).mono ?_
        rintro en w8 ⟨rfl, r8, hb8⟩
        have b8 := b7.trans (hb8.mono b7.size)
        have hz8 := b7.size
        clear hb8 b7 CD
        go_wp2_with fail
        refine (unhide CS _ _ r8).mono ?_
        rintro en w9 ⟨vS, rfl, r9, t9, hbad, hgood⟩
        have b9 : Below w.heap.size w w9 := t9.under b8 hz8
        clear r8 t9 b8 CS
        by_cases e3 : rs.end' = 0
        · obtain ⟨e3a, e3b⟩ := unhide O3 e3
          obtain ⟨v1, v2, v3, rfl, D1, D2, D3⟩ := hgood e3a
          have hlen := congrArg List.length e3b
          rw [pSig, List.length_append, List.length_append, List.length_append, pDigests_length, pDigests_length, pDigests_length, pBig_length] at hlen
          have cW : ∀ w, Digs w v1 d1 → Digs w v2 d2 → Digs w v3 d3 → Calls Try.prog 19 #[.agg #[.int .i64 (m : Int), v1, v2, v3]] w fun e w' => e = .returned (.string (str l)) ∧ Below w.heap.size w w' := fun w a1 a2 a3 => by
            have := wsig_calls (m : Int) v1 v2 v3 d1 d2 d3 (by omega) (by omega) (by omega) w a1 a2 a3
            rw [e3b] at this; exact this
          have CW := hide cW
          obtain ⟨p1, n1, c1, hv1, _⟩ := id D1
          obtain ⟨p2, n2, c2, hv2, _⟩ := id D2
          obtain ⟨p3, n3, c3, hv3, _⟩ := id D3
          subst hv1 hv2 hv3
          clear cW e3b hlen hgood hbad e3a
          have q10 := al1 w9 (.cells #[.int .i64 (m : Int), .slice p1 n1 c1, .slice p2 n2 c2, .slice p3 n3 c3] 27)
          have hb10 := (Below.refl w9.heap.size w9).alloc (Nat.le_refl _) (.cells #[.int .i64 (m : Int), .slice p1 n1 c1, .slice p2 n2 c2, .slice p3 n3 c3] 27)
          go_wp2_with fail
          refine (wawake_calls (w9.alloc (.cells #[.int .i64 (m : Int), .slice p1 n1 c1, .slice p2 n2 c2, .slice p3 n3 c3] 27))).mono ?_
          have z10 : (w9.alloc (.cells #[.int .i64 (m : Int), .slice p1 n1 c1, .slice p2 n2 c2, .slice p3 n3 c3] 27)).heap.size = w9.heap.size + 1 := by simp
          generalize w9.alloc (.cells #[.int .i64 (m : Int), .slice p1 n1 c1, .slice p2 n2 c2, .slice p3 n3 c3] 27) = W10 at *
          rintro en w11 ⟨rfl, hb11⟩
          have h911 : Below w9.heap.size w9 w11 := hb10.trans (hb11.mono hb10.size)
          have q11 := Below.at hb11 (by omega) q10
          have r11 := r9.below h911
          have b11 := b9.trans (h911.mono b9.size)
          have E1 := D1.below h911
          have E2 := D2.below h911
          have E3 := D3.below h911
          clear q10 hb10 hb11 r9 b9 D1 D2 D3 z10 h911
          generalize w9.heap.size = G at *
          go_wp2_with fail
          refine (rend_calls _ _ _ r11).mono ?_
          rintro en w12 ⟨rfl, rfl⟩
          rw [e3]
          have k0 : w12.cell? ⟨G, 0, none⟩ = some (.int .i64 (m : Int)) := (sig_cell q11).1 0 _ rfl
          have k1 : w12.cell? ⟨G, 1, none⟩ = some (.slice p1 n1 c1) := (sig_cell q11).1 1 _ rfl
          have k2 : w12.cell? ⟨G, 2, none⟩ = some (.slice p2 n2 c2) := (sig_cell q11).1 2 _ rfl
          have k3 : w12.cell? ⟨G, 3, none⟩ = some (.slice p3 n3 c3) := (sig_cell q11).1 3 _ rfl
          clear q11 r11 e3
          go_wp2_with fail
          refine (unhide CW _ E1 E2 E3).mono ?_
          rintro en w13 ⟨rfl, hb13⟩
          have b13 := b11.trans (hb13.mono b11.size)
          clear E1 E2 E3 CW hb13 b11 k0 k1 k2 k3
          go_wp2
          go_ret
          exact ⟨rfl, b13⟩
        · have ee3 : (rs.end' != 0) = true := by simpa using e3
          obtain ⟨i, p1, n1, c1, p2, n2, c2, p3, n3, c3, rfl⟩ : ∃ i p1 n1 c1 p2 n2 c2 p3 n3 c3, vS = .agg #[.int .i64 i, .slice p1 n1 c1, .slice p2 n2 c2, .slice p3 n3 c3] := by
            by_cases he : rs.err = 0
            · obtain ⟨v1, v2, v3, rfl, D1, D2, D3⟩ := hgood he
              obtain ⟨p1, n1, c1, rfl, _⟩ := D1
              obtain ⟨p2, n2, c2, rfl, _⟩ := D2
              obtain ⟨p3, n3, c3, rfl, _⟩ := D3
              exact ⟨_, _, _, _, _, _, _, _, _, _, rfl⟩
            · rw [hbad he]
              exact ⟨_, _, _, _, _, _, _, _, _, _, rfl⟩
          clear hgood hbad e3
          have hb10 := (Below.refl w9.heap.size w9).alloc (Nat.le_refl _) (.cells #[.int .i64 i, .slice p1 n1 c1, .slice p2 n2 c2, .slice p3 n3 c3] 27)
          go_wp2_with fail
          refine (wawake_calls (w9.alloc (.cells #[.int .i64 i, .slice p1 n1 c1, .slice p2 n2 c2, .slice p3 n3 c3] 27))).mono ?_
          generalize w9.alloc (.cells #[.int .i64 i, .slice p1 n1 c1, .slice p2 n2 c2, .slice p3 n3 c3] 27) = W10 at *
          rintro en w11 ⟨rfl, hb11⟩
          have h911 : Below w9.heap.size w9 w11 := hb10.trans (hb11.mono hb10.size)
          have r11 := r9.below h911
          have b11 := b9.trans (h911.mono b9.size)
          clear hb10 hb11 r9 b9 h911
          go_wp2_with fail
          refine (rend_calls _ _ _ r11).mono ?_
          rintro en w12 ⟨rfl, rfl⟩
          clear r11
          go_wp2
          go_ret
          exact ⟨rfl, b11⟩
end Go.Proofs.Ytngmcipmmeabmaa
