/-
  WHAT THE DOCUMENT'S OWN utf8 OF LAYER 2 RETURNS: a rune's bytes, in a block of their own.
-/
import Derived.Test.YtdkcgiifldhdeaaDoorNameRef4
namespace Go.Proofs.YtdkcgiifldhdeaaDoor
open Go.RowKit
set_option linter.unusedSimpArgs false
set_option linter.unusedVariables false

/-- A number's bytes, by the document's rule (for surrogates too). -/
def pUtf8 (n : Nat) : List UInt8 :=
  if n < 128 then [UInt8.ofNat n]
  else if n < 2048 then [UInt8.ofNat (192 + n / 64), UInt8.ofNat (128 + n % 64)]
  else if n < 65536 then [UInt8.ofNat (224 + n / 4096), UInt8.ofNat (128 + n / 64 % 64), UInt8.ofNat (128 + n % 64)]
  else [UInt8.ofNat (240 + n / 262144), UInt8.ofNat (128 + n / 4096 % 64), UInt8.ofNat (128 + n / 64 % 64), UInt8.ofNat (128 + n % 64)]
theorem pUtf8_len (n : Nat) : 1 ≤ (pUtf8 n).length ∧ (pUtf8 n).length ≤ 4 := by
  unfold pUtf8
  split
  · simp
  · split
    · simp
    · split <;> simp
theorem pUtf8_enc (n : Nat) (h : validRune n) : pUtf8 n = Lib.encodeRune (n : Int) := by
  unfold validRune at h
  unfold pUtf8 Lib.encodeRune
  by_cases c1 : n < 128
  · rw [if_pos c1, Lib.encodeRuneZ_one (by omega) (by omega)]
    simp only [List.map_cons, List.map_nil]; congr 1
  · rw [if_neg c1]
    by_cases c2 : n < 2048
    · rw [if_pos c2, Lib.encodeRuneZ_two (by omega) (by omega)]
      simp only [List.map_cons, List.map_nil]; congr 1
    · rw [if_neg c2]
      by_cases c3 : n < 65536
      · rw [if_pos c3, Lib.encodeRuneZ_three (by omega)]
        simp only [List.map_cons, List.map_nil]; congr 1
      · rw [if_neg c3, Lib.encodeRuneZ_four (by omega) (by omega)]
        simp only [List.map_cons, List.map_nil]; congr 1
set_option maxHeartbeats 2000000 in
set_option maxRecDepth 100000 in
theorem rutf8_calls (n : Nat) (hn : n ≤ 1114111) (w : World) :
    Calls Tryd.prog 40 #[.int .i64 (n : Int)] w fun e w' => e = .returned (.slice (some ⟨w.heap.size, 0, none⟩) (pUtf8 n).length (pUtf8 n).length) ∧ w' = w.alloc (.cells (bc (pUtf8 n)) 5) := by
  unfold pUtf8
  obtain ⟨q1, h1, e1⟩ : ∃ q : Nat, Hid (192 + n / 64 = q) ∧ (192 : Int) + (n : Int) / 64 = (q : Int) := ⟨_, rfl, by omega⟩
  obtain ⟨q2, h2, e2⟩ : ∃ q : Nat, Hid (128 + n % 64 = q) ∧ (128 : Int) + (n : Int) % 64 = (q : Int) := ⟨_, rfl, by omega⟩
  obtain ⟨q3, h3, e3⟩ : ∃ q : Nat, Hid (224 + n / 4096 = q) ∧ (224 : Int) + (n : Int) / 4096 = (q : Int) := ⟨_, rfl, by omega⟩
  obtain ⟨q4, h4, e4⟩ : ∃ q : Nat, Hid (128 + n / 64 % 64 = q) ∧ (128 : Int) + (n : Int) / 64 % 64 = (q : Int) := ⟨_, rfl, by omega⟩
  obtain ⟨q5, h5, e5⟩ : ∃ q : Nat, Hid (240 + n / 262144 = q) ∧ (240 : Int) + (n : Int) / 262144 = (q : Int) := ⟨_, rfl, by omega⟩
  obtain ⟨q6, h6, e6⟩ : ∃ q : Nat, Hid (128 + n / 4096 % 64 = q) ∧ (128 : Int) + (n : Int) / 4096 % 64 = (q : Int) := ⟨_, rfl, by omega⟩
  rw [unhide h1, unhide h2, unhide h3, unhide h4, unhide h5, unhide h6]
  have b2 : q2 < 256 := by have := unhide h2; omega
  have b4 : q4 < 256 := by have := unhide h4; omega
  have b5 : q5 < 256 := by have := unhide h5; omega
  have b6 : q6 < 256 := by have := unhide h6; omega
  by_cases c1 : n < 128
  · have d1 : decide ((n : Int) < 128) = true := by simp; omega
    rw [if_pos c1]
    have m0 : (n : Int) % 256 = ((UInt8.ofNat n).toNat : Int) := by rw [← ofNat_small n (by omega)]; omega
    generalize UInt8.ofNat n = y at *
    clear c1
    go_enter Tryd.func40, Tryd.ntmps40
    go_wp2
    go_ret
    exact ⟨rfl, rfl⟩
  · have d1 : decide ((n : Int) < 128) = false := by simp; omega
    rw [if_neg c1]
    by_cases c2 : n < 2048
    · have d2 : decide ((n : Int) < 2048) = true := by simp; omega
      rw [if_pos c2]
      have b1 : q1 < 256 := by have := unhide h1; omega
      have m1 : Hid ((q1 : Int) = ((UInt8.ofNat q1).toNat : Int)) := hide (ofNat_small q1 b1)
      have m2 : Hid ((q2 : Int) = ((UInt8.ofNat q2).toNat : Int)) := hide (ofNat_small q2 b2)
      generalize UInt8.ofNat q1 = y1 at *
      generalize UInt8.ofNat q2 = y2 at *
      clear c1 c2 e3 e4 e5 e6
      go_enter Tryd.func40, Tryd.ntmps40
      go_wp2
      go_ret
      exact ⟨rfl, by rw [unhide m1, unhide m2]; rfl⟩
    · have d2 : decide ((n : Int) < 2048) = false := by simp; omega
      rw [if_neg c2]
      by_cases c3 : n < 65536
      · have d3 : decide ((n : Int) < 65536) = true := by simp; omega
        rw [if_pos c3]
        have b3 : q3 < 256 := by have := unhide h3; omega
        have m1 : Hid ((q3 : Int) = ((UInt8.ofNat q3).toNat : Int)) := hide (ofNat_small q3 b3)
        have m2 : Hid ((q4 : Int) = ((UInt8.ofNat q4).toNat : Int)) := hide (ofNat_small q4 b4)
        have m3 : Hid ((q2 : Int) = ((UInt8.ofNat q2).toNat : Int)) := hide (ofNat_small q2 b2)
        generalize UInt8.ofNat q3 = y1 at *
        generalize UInt8.ofNat q4 = y2 at *
        generalize UInt8.ofNat q2 = y3 at *
        clear c1 c2 c3 e1 e5 e6
        go_enter Tryd.func40, Tryd.ntmps40
        go_wp2
        go_ret
        exact ⟨rfl, by rw [unhide m1, unhide m2, unhide m3]; rfl⟩
      · have d3 : decide ((n : Int) < 65536) = false := by simp; omega
        rw [if_neg c3]
        have m1 : Hid ((q5 : Int) = ((UInt8.ofNat q5).toNat : Int)) := hide (ofNat_small q5 b5)
        have m2 : Hid ((q6 : Int) = ((UInt8.ofNat q6).toNat : Int)) := hide (ofNat_small q6 b6)
        have m3 : Hid ((q4 : Int) = ((UInt8.ofNat q4).toNat : Int)) := hide (ofNat_small q4 b4)
        have m4 : Hid ((q2 : Int) = ((UInt8.ofNat q2).toNat : Int)) := hide (ofNat_small q2 b2)
        generalize UInt8.ofNat q5 = y1 at *
        generalize UInt8.ofNat q6 = y2 at *
        generalize UInt8.ofNat q4 = y3 at *
        generalize UInt8.ofNat q2 = y4 at *
        clear c1 c2 c3 e1 e3
        go_enter Tryd.func40, Tryd.ntmps40
        go_wp2
        go_ret
        exact ⟨rfl, by rw [unhide m1, unhide m2, unhide m3, unhide m4]; rfl⟩
end Go.Proofs.YtdkcgiifldhdeaaDoor
