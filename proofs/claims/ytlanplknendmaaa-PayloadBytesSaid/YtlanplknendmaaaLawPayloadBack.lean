/-
  PayloadBack: what is written is read as it was, what is read is written so. For every payload and every text.
-/
import Derived.Test.YtlanplknendmaaaPayG
namespace Go.Proofs.Ytlanplknendmaaa
open Go.RowKit
set_option linter.unusedSimpArgs false
set_option linter.unusedVariables false

set_option maxRecDepth 100000 in
theorem pSame_calls (p q : Pl) (w : World) :
    Calls Try.prog 20 #[p.val, q.val] w fun e w' => e = .returned (.bool (pPSame p q)) ∧ Below w.heap.size w w' := by
  have k := hide fun W => psame_calls p q W
  generalize p.val = V at *
  generalize q.val = U at *
  generalize pPSame p q = R at *
  go_enter Try.func20, Try.ntmps20
  go_wp2_with fail
  refine (unhide k _).mono ?_
  rintro e w1 ⟨rfl, b1⟩
  go_wp2
  go_ret
  exact ⟨rfl, b1⟩
theorem pl_says (l : List UInt8) : (if (pPRead l).2 != 0 then true else if (pPRead l).1.bytes.2 == 0 then decide ((pPRead l).1.bytes.1 = l) else false) = true := by
  by_cases h : (pPRead l).2 = 0
  · simp [h, pl_read l h]
  · simp [h]
set_option maxHeartbeats 4000000 in
set_option maxRecDepth 100000 in
theorem payloadBack_walk (x : Ax) (ok : x.ok) (s : List UInt8) (hs : s.length ≤ maxLen) (w : World) :
    Calls Try.prog 5 #[.agg x.cells, .string (str s)] w fun e w' => e = .returned (.bool true) ∧ Below w.heap.size w w' := by
  unfold maxLen at hs
  have A := hide pawake_calls
  have Li := fun W => plight_calls x W
  have hi := ax_info x
  have hb0 := (Below.refl w.heap.size w).alloc (Nat.le_refl _) (.cells x.cells 25)
  have q0 := al1 w (.cells x.cells 25)
  have z0 : w.heap.size < (w.alloc (.cells x.cells 25)).heap.size := by simp
  by_cases hL : (if x.a.length ≤ 2000 then decide (x.b.length ≤ 2000) else false) = true
  · rw [hL] at Li
    have hl : x.a.length ≤ 2000 ∧ x.b.length ≤ 2000 := by
      by_cases a1 : x.a.length ≤ 2000 <;> simp [a1] at hL <;> omega
    have LI := hide Li
    by_cases hs5 : s.length ≤ 5000
    · have hs7 : decide (5000 < (s.length : Int)) = false := by simp; omega
      have T := hide fun W => to_calls x ok W
      have pok := x.pl_ok ok
      have pm := x.pl_most 2000 hl.1 hl.2
      have B := hide fun W => pbytes_calls x.pl pok (x.pl.most_mono (by decide) pm) W
      obtain ⟨rok, rm⟩ := pPRead_ok s
      have hsay := pl_says s
      have C := hide fun W => pread_calls s (by omega) W
      have D := hide fun W => pbytes_calls (pPRead s).1 rok (Pl.most_mono (by omega) _ rm) W
      have hback := pl_back x.pl pok
      have F := fun h W => pread_calls x.pl.bytes.1 h W
      have hbl : x.pl.bytes.1.length ≤ 4611686018427387904 := by
        have := fields_len x.pl (x.pl.most_mono (by decide) pm)
        unfold Pl.bytes
        split
        · simp
        · split
          · simp only [List.length_append, pBig_length]; omega
          · simp
      have F := F hbl
      have E := fun W => pSame_calls x.pl x.pl W
      have hE := pPSame_self x.pl
      generalize (pPRead s).1.bytes = z at *
      generalize pPRead s = y at *
      obtain ⟨y1, y2⟩ := y
      obtain ⟨z1, z2⟩ := z
      simp only at *
      generalize y1.val = Y at *
      have HS := hide hsay
      have tail : ∀ wi, Hid (Below w.heap.size w wi) → True := fun _ _ => trivial
      clear hL hl hsay Li hs pm pok rok rm hbl tail
      by_cases he : x.pl.bytes.2 = 0
      · obtain ⟨hb1, hb2⟩ := hback he
        rw [hb1] at F
        rw [hE hb2] at E
        have he' : (x.pl.bytes.2 == 0) = true := by simp [he]
        have HF := hide F
        have HE := hide E
        generalize x.pl.bytes = v at *
        obtain ⟨v1, v2⟩ := v
        simp only at *
        generalize x.pl.val = V at *
        generalize x.cells = X at *
        clear hback hb1 hb2 F E hE he hs5
        go_enter Try.func5, Try.ntmps5
        go_wp2_with fail
        refine (unhide A _).mono ?_
        rintro e w1 ⟨rfl, b1⟩
        have q1 := Below.at b1 z0 q0
        have hb1 := hb0.trans (b1.mono hb0.size)
        clear hb0 q0 z0 b1
        go_wp2_with (refine wpList_load_row rfl 25 (.tmp 2) rfl w.heap.size rfl 25 X (0, 0) _ q1 Try.underlying25 rfl hi ?_)
        refine (unhide LI _).mono ?_
        rintro e w2 ⟨rfl, b2⟩
        have q2 := Below.at b2 (Array.getElem?_eq_some_iff.1 q1).1 q1
        have hb2 := hb1.trans (b2.mono hb1.size)
        clear q1 hb1 b2
        go_wp2_with (refine wpList_load_row rfl 25 (.tmp 2) rfl w.heap.size rfl 25 X (0, 0) _ q2 Try.underlying25 rfl hi ?_)
        refine (unhide T _).mono ?_
        rintro e w3 ⟨rfl, b3⟩
        have hb3 := hb2.trans (b3.mono hb2.size)
        clear q2 hb2 b3
        go_wp2_with fail
        refine (unhide B _).mono ?_
        rintro e w4 ⟨rfl, b4⟩
        have hb4 := hb3.trans (b4.mono hb3.size)
        clear hb3 b4
        go_wp2_with fail
        refine (unhide HF _).mono ?_
        rintro e w5 ⟨rfl, b5⟩
        have hb5 := hb4.trans (b5.mono hb4.size)
        clear hb4 b5
        go_wp2_with fail
        refine (unhide HE _).mono ?_
        rintro e w6 ⟨rfl, b6⟩
        have hb6 := hb5.trans (b6.mono hb5.size)
        clear hb5 b6
        go_wp2_with fail
        refine (unhide C _).mono ?_
        rintro e w7 ⟨rfl, b7⟩
        have hb7 := hb6.trans (b7.mono hb6.size)
        clear hb6 b7
        go_wp2_with fail
        refine (unhide D _).mono ?_
        rintro e w8 ⟨rfl, b8⟩
        have hb8 := hb7.trans (b8.mono hb7.size)
        clear hb7 b8
        go_wp2_with fail
        refine (unhide A _).mono ?_
        rintro e w9 ⟨rfl, b9⟩
        have hb9 := hb8.trans (b9.mono hb8.size)
        clear hb8 b9
        have hsay := unhide HS
        cases e1 : (y2 != 0) with
        | true =>
          go_wp2_with fail
          go_ret
          exact ⟨rfl, hb9⟩
        | false =>
          rw [e1] at hsay
          cases e2 : (z2 == 0) with
          | true =>
            rw [e2] at hsay
            have e3 : z1 = s := by simpa using hsay
            have e4 : ((str z1).toList == (str s).toList) = true := by rw [e3]; simp
            clear hsay
            go_wp2_with fail
            go_ret
            exact ⟨rfl, hb9⟩
          | false =>
            rw [e2] at hsay
            simp at hsay
      · have he' : (x.pl.bytes.2 == 0) = false := by simp [he]
        generalize x.pl.bytes = v at *
        obtain ⟨v1, v2⟩ := v
        simp only at *
        generalize x.pl.val = V at *
        generalize x.cells = X at *
        clear hback F E hE he hs5
        go_enter Try.func5, Try.ntmps5
        go_wp2_with fail
        refine (unhide A _).mono ?_
        rintro e w1 ⟨rfl, b1⟩
        have q1 := Below.at b1 z0 q0
        have hb1 := hb0.trans (b1.mono hb0.size)
        clear hb0 q0 z0 b1
        go_wp2_with (refine wpList_load_row rfl 25 (.tmp 2) rfl w.heap.size rfl 25 X (0, 0) _ q1 Try.underlying25 rfl hi ?_)
        refine (unhide LI _).mono ?_
        rintro e w2 ⟨rfl, b2⟩
        have q2 := Below.at b2 (Array.getElem?_eq_some_iff.1 q1).1 q1
        have hb2 := hb1.trans (b2.mono hb1.size)
        clear q1 hb1 b2
        go_wp2_with (refine wpList_load_row rfl 25 (.tmp 2) rfl w.heap.size rfl 25 X (0, 0) _ q2 Try.underlying25 rfl hi ?_)
        refine (unhide T _).mono ?_
        rintro e w3 ⟨rfl, b3⟩
        have hb3 := hb2.trans (b3.mono hb2.size)
        clear q2 hb2 b3
        go_wp2_with fail
        refine (unhide B _).mono ?_
        rintro e w4 ⟨rfl, b4⟩
        have hb4 := hb3.trans (b4.mono hb3.size)
        clear hb3 b4
        go_wp2_with fail
        refine (unhide C _).mono ?_
        rintro e w7 ⟨rfl, b7⟩
        have hb7 := hb4.trans (b7.mono hb4.size)
        clear hb4 b7
        go_wp2_with fail
        refine (unhide D _).mono ?_
        rintro e w8 ⟨rfl, b8⟩
        have hb8 := hb7.trans (b8.mono hb7.size)
        clear hb7 b8
        go_wp2_with fail
        refine (unhide A _).mono ?_
        rintro e w9 ⟨rfl, b9⟩
        have hb9 := hb8.trans (b9.mono hb8.size)
        clear hb8 b9
        have hsay := unhide HS
        cases e1 : (y2 != 0) with
        | true =>
          go_wp2_with fail
          go_ret
          exact ⟨rfl, hb9⟩
        | false =>
          rw [e1] at hsay
          cases e2 : (z2 == 0) with
          | true =>
            rw [e2] at hsay
            have e3 : z1 = s := by simpa using hsay
            have e4 : ((str z1).toList == (str s).toList) = true := by rw [e3]; simp
            clear hsay
            go_wp2_with fail
            go_ret
            exact ⟨rfl, hb9⟩
          | false =>
            rw [e2] at hsay
            simp at hsay
    · have hs5' : 5000 < s.length := by omega
      have hs7 : decide (5000 < (s.length : Int)) = true := by simp; omega
      generalize x.cells = X at *
      clear hL hl Li hs5 ok hs
      go_enter Try.func5, Try.ntmps5
      go_wp2_with fail
      refine (unhide A _).mono ?_
      rintro e w1 ⟨rfl, b1⟩
      have q1 := Below.at b1 z0 q0
      have hb1 := hb0.trans (b1.mono hb0.size)
      go_wp2_with (refine wpList_load_row rfl 25 (.tmp 2) rfl w.heap.size rfl 25 X (0, 0) _ q1 Try.underlying25 rfl hi ?_)
      refine (unhide LI _).mono ?_
      rintro e w2 ⟨rfl, b2⟩
      go_wp2_with fail
      refine (unhide A _).mono ?_
      rintro e w3 ⟨rfl, b3⟩
      go_wp2_with fail
      go_ret
      have hb2 := hb1.trans (b2.mono hb1.size)
      exact ⟨rfl, hb2.trans (b3.mono hb2.size)⟩
  · rw [Bool.not_eq_true] at hL
    rw [hL] at Li
    have LI := hide Li
    generalize x.cells = X at *
    clear Li hL ok
    go_enter Try.func5, Try.ntmps5
    go_wp2_with fail
    refine (unhide A _).mono ?_
    rintro e w1 ⟨rfl, b1⟩
    have q1 := Below.at b1 z0 q0
    have hb1 := hb0.trans (b1.mono hb0.size)
    go_wp2_with (refine wpList_load_row rfl 25 (.tmp 2) rfl w.heap.size rfl 25 X (0, 0) _ q1 Try.underlying25 rfl hi ?_)
    refine (unhide LI _).mono ?_
    rintro e w2 ⟨rfl, b2⟩
    go_wp2_with fail
    refine (unhide A _).mono ?_
    rintro e w3 ⟨rfl, b3⟩
    go_wp2_with fail
    go_ret
    have hb2 := hb1.trans (b2.mono hb1.size)
    exact ⟨rfl, hb2.trans (b3.mono hb2.size)⟩
end Go.Proofs.Ytlanplknendmaaa
