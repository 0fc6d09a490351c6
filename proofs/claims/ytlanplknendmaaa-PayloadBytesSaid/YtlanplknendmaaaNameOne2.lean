/-
  WHAT THE DOCUMENT'S OWN DECODER OF LAYER 2 RETURNS: One.
-/
import Derived.Test.YtlanplknendmaaaNameOne
namespace Go.Proofs.Ytlanplknendmaaa
open Go.RowKit
set_option linter.unusedSimpArgs false
set_option linter.unusedVariables false

theorem getD_drop' (l : List UInt8) (a k : Nat) : (l.drop a).getD k 0 = l.getD (a + k) 0 := by
  simp [List.getD_eq_getElem?_getD, List.getElem?_drop]
/-- A rune's number, so many bytes behind its first one read. -/
def vv (c : Nat) (l : List UInt8) (a : Nat) : Nat → Nat
  | 0 => c
  | j + 1 => vv c l a j * 64 + (l.getD (a + 1 + j) 0).toNat % 64
theorem vv_lt (c : Nat) (hc : c < 32) (l : List UInt8) (a : Nat) : ∀ j, vv c l a j < 32 * 64 ^ j
  | 0 => by simpa [vv] using hc
  | j + 1 => by
    have := vv_lt c hc l a j
    rw [vv, Nat.pow_succ]; omega
set_option maxHeartbeats 2000000 in
theorem one_A (l : List UInt8) (hl : l.length ≤ 2305843009213693952) (a : Nat) (ha : a < l.length) (b0 : Nat) (hb : (l.getD a 0).toNat = b0) (hc : b0 < 128) (w : World) :
    Calls Try.prog 61 #[.string (str l), .int .i64 (a : Int)] w fun e w' => e = .returned (.tuple #[.int .i64 (b0 : Int), .int .i64 1]) ∧ w' = w := by
  have hix := str_index l a ha
  rw [hb] at hix
  have hb256 : b0 < 256 := by rw [← hb]; exact UInt8.toNat_lt _
  have d1 : decide ((b0 : Int) < 128) = true := by simp; omega
  clear hc hb
  go_enter Try.func61, Try.ntmps61
  go_wp2
  go_ret2
  exact ⟨rfl, rfl⟩
set_option maxHeartbeats 2000000 in
theorem one_E1 (l : List UInt8) (hl : l.length ≤ 2305843009213693952) (a : Nat) (ha : a < l.length) (b0 : Nat) (hb : (l.getD a 0).toNat = b0) (hc : 128 ≤ b0 ∧ b0 ≤ 193) (w : World) :
    Calls Try.prog 61 #[.string (str l), .int .i64 (a : Int)] w fun e w' => e = .returned (.tuple #[.int .i64 ((2000000 + b0 : Nat) : Int), .int .i64 1]) ∧ w' = w := by
  have hix := str_index l a ha
  rw [hb] at hix
  have hb256 : b0 < 256 := by rw [← hb]; exact UInt8.toNat_lt _
  have d1 : decide ((b0 : Int) < 128) = false := by simp; omega
  have d2 : decide ((194 : Int) ≤ (b0 : Int)) = false := by simp; omega
  have d4 : decide ((224 : Int) ≤ (b0 : Int)) = false := by simp; omega
  have d8 : decide ((240 : Int) ≤ (b0 : Int)) = false := by simp; omega
  have hcm : ((2000000 + b0 : Nat) : Int) = (b0 : Int) + 2000000 := by omega
  rw [hcm]
  clear hc hb
  go_enter Try.func61, Try.ntmps61
  go_wp2
  go_ret2
  exact ⟨rfl, rfl⟩
set_option maxHeartbeats 2000000 in
theorem one_E2 (l : List UInt8) (hl : l.length ≤ 2305843009213693952) (a : Nat) (ha : a < l.length) (b0 : Nat) (hb : (l.getD a 0).toNat = b0) (hc : 245 ≤ b0) (w : World) :
    Calls Try.prog 61 #[.string (str l), .int .i64 (a : Int)] w fun e w' => e = .returned (.tuple #[.int .i64 ((2000000 + b0 : Nat) : Int), .int .i64 1]) ∧ w' = w := by
  have hix := str_index l a ha
  rw [hb] at hix
  have hb256 : b0 < 256 := by rw [← hb]; exact UInt8.toNat_lt _
  have d1 : decide ((b0 : Int) < 128) = false := by simp; omega
  have d2 : decide ((194 : Int) ≤ (b0 : Int)) = true := by simp; omega
  have d3 : decide ((b0 : Int) ≤ 223) = false := by simp; omega
  have d4 : decide ((224 : Int) ≤ (b0 : Int)) = true := by simp; omega
  have d5 : decide ((b0 : Int) ≤ 239) = false := by simp; omega
  have d8 : decide ((240 : Int) ≤ (b0 : Int)) = true := by simp; omega
  have d9 : decide ((b0 : Int) ≤ 244) = false := by simp; omega
  have hcm : ((2000000 + b0 : Nat) : Int) = (b0 : Int) + 2000000 := by omega
  rw [hcm]
  clear hc hb
  go_enter Try.func61, Try.ntmps61
  go_wp2
  go_ret2
  exact ⟨rfl, rfl⟩
set_option maxHeartbeats 2000000 in
theorem one_Bs1 (l : List UInt8) (hl : l.length ≤ 2305843009213693952) (a : Nat) (ha : a < l.length) (b0 : Nat) (hb : (l.getD a 0).toNat = b0) (hc : 194 ≤ b0 ∧ b0 ≤ 223) (w : World) (h1 : wi l (a + 1) 128 191 = false) :
    Calls Try.prog 61 #[.string (str l), .int .i64 (a : Int)] w fun e w' => e = .returned (.tuple #[.int .i64 ((2000000 + b0 : Nat) : Int), .int .i64 1]) ∧ w' = w := by
  have hix := str_index l a ha
  rw [hb] at hix
  have hb256 : b0 < 256 := by rw [← hb]; exact UInt8.toNat_lt _
  have d1 : decide ((b0 : Int) < 128) = false := by simp; omega
  have d2 : decide ((194 : Int) ≤ (b0 : Int)) = true := by simp; omega
  have d3 : decide ((b0 : Int) ≤ 223) = true := by simp; omega
  have c1 : Hid (∀ w, Calls Try.prog 65 #[.string (str l), .int .i64 ((a : Int) + 1), .int .u8 128, .int .u8 191] w fun e w' => e = .returned (.bool false) ∧ w' = w) := fun w => by
    have := within_calls l (by omega) (a + 1) 128 191 w
    rw [h1] at this; exact this
  have hcm : ((2000000 + b0 : Nat) : Int) = (b0 : Int) + 2000000 := by omega
  rw [hcm]
  clear hc hb
  go_enter Try.func61, Try.ntmps61
  go_wp2_with fail
  refine (unhide c1 _).mono ?_
  rintro e w' ⟨rfl, rfl⟩
  go_wp2
  go_ret2
  exact ⟨rfl, rfl⟩
set_option maxHeartbeats 2000000 in
theorem one_Br (l : List UInt8) (hl : l.length ≤ 2305843009213693952) (a : Nat) (ha : a < l.length) (b0 : Nat) (hb : (l.getD a 0).toNat = b0) (hc : 194 ≤ b0 ∧ b0 ≤ 223) (w : World) (h1 : wi l (a + 1) 128 191 = true) :
    Calls Try.prog 61 #[.string (str l), .int .i64 (a : Int)] w fun e w' => e = .returned (.tuple #[.int .i64 (vv (b0 % 32) l a 1 : Int), .int .i64 2]) ∧ w' = w := by
  have hix := str_index l a ha
  rw [hb] at hix
  have hb256 : b0 < 256 := by rw [← hb]; exact UInt8.toNat_lt _
  have d1 : decide ((b0 : Int) < 128) = false := by simp; omega
  have d2 : decide ((194 : Int) ≤ (b0 : Int)) = true := by simp; omega
  have d3 : decide ((b0 : Int) ≤ 223) = true := by simp; omega
  have c1 : Hid (∀ w, Calls Try.prog 65 #[.string (str l), .int .i64 ((a : Int) + 1), .int .u8 128, .int .u8 191] w fun e w' => e = .returned (.bool true) ∧ w' = w) := fun w => by
    have := within_calls l (by omega) (a + 1) 128 191 w
    rw [h1] at this; exact this
  have hlen : a + 1 < l.length := by
    have := h1
    unfold wi at this
    simp only [Bool.and_eq_true, decide_eq_true_eq] at this
    exact this.1
  have hvl := vv_lt (b0 % 32) (by omega) l a
  obtain ⟨c0, hc0, ec0⟩ : ∃ c0 : Nat, Hid (b0 % 32 = c0) ∧ (b0 : Int) % 32 = (c0 : Int) := ⟨_, rfl, by omega⟩
  have e32 : (b0 : Int) % 32 = ((b0 % 32 : Nat) : Int) := by omega
  rw [unhide hc0] at hvl ⊢
  have hv0 : vv c0 l a 0 = c0 := rfl
  have Hvl := hide hvl
  clear hvl e32 h1
  clear hc hb
  go_enter Try.func61, Try.ntmps61
  go_wp2_with fail
  refine (unhide c1 _).mono ?_
  rintro e w' ⟨rfl, rfl⟩
  go_wp2
  go_loopw [10, 11] (fun x i wr => ∃ (j v : Nat), j ≤ 1 ∧ x = .int .i64 (v : Int) ∧ i = .int .i64 ((j + 1 : Nat) : Int) ∧ Hid (v = vv c0 l a j) ∧ wr = w') (fun _ i _ => 1 + 1 - (intOf i).toNat)
  case atStart => exact ⟨0, c0, by omega, by rw [ec0], rfl, rfl, rfl⟩
  case round =>
    obtain ⟨j, v, hj, rfl, rfl, hv, rfl⟩ := hrel
    by_cases hlt : j < 1
    · have hd : decide (((j + 1 : Nat) : Int) ≤ 1) = true := by simp; omega
      have hix2 : ∀ w, (Instr.index 9 (.string (str l)) (.int .i64 ((a : Int) + ((j + 1 : Nat) : Int)))).run Try.prog w = .ok (.int .u8 ((l.getD (a + 1 + j) 0).toNat : Int)) w := fun w => by
        have := str_index l (a + 1 + j) (by omega) w
        rw [show ((a + 1 + j : Nat) : Int) = (a : Int) + ((j + 1 : Nat) : Int) by omega] at this
        exact this
      have hvb : v < 131072 := by
        rw [unhide hv]
        refine Nat.lt_of_lt_of_le (unhide Hvl j) ?_
        have : 64 ^ j ≤ 64 ^ 2 := Nat.pow_le_pow_right (by decide) (by omega)
        omega
      obtain ⟨bj, hbj⟩ : ∃ bj, Hid ((l.getD (a + 1 + j) 0).toNat = bj) := ⟨_, rfl⟩
      rw [unhide hbj] at hix2
      have hbjb : bj < 256 := by rw [← unhide hbj]; exact UInt8.toNat_lt _
      generalize hjj : j + 1 = jj at *
      have Hjj := hide hjj
      have hjb : jj ≤ 3 := by omega
      clear hjj
      go_wp2
      go_roundw
      case rel =>
        refine ⟨j + 1, v * 64 + bj % 64, by omega, ?_, ?_, ?_, trivial⟩
        · congr 1 <;> omega
        · have hh := unhide Hjj
          rw [show ((j + 1 + 1 : Nat) : Int) = (jj : Int) + 1 by omega]
        · show _ = _
          rw [vv, ← unhide hv, unhide hbj]
      case measure => have := unhide Hjj; simp [intOf]; omega
    · obtain rfl : j = 1 := by omega
      have hd : decide (((1 + 1 : Nat) : Int) ≤ 1) = false := by decide
      have hv' := unhide hv
      subst hv'
      clear hv
      go_wp2
      go_ret2
      exact ⟨rfl, rfl⟩
set_option maxHeartbeats 2000000 in
theorem one_C0s1 (l : List UInt8) (hl : l.length ≤ 2305843009213693952) (a : Nat) (ha : a < l.length) (b0 : Nat) (hb : (l.getD a 0).toNat = b0) (hc : b0 = 224) (w : World) (h1 : wi l (a + 1) 160 191 = false) :
    Calls Try.prog 61 #[.string (str l), .int .i64 (a : Int)] w fun e w' => e = .returned (.tuple #[.int .i64 ((2000000 + b0 : Nat) : Int), .int .i64 1]) ∧ w' = w := by
  have hix := str_index l a ha
  rw [hb] at hix
  have hb256 : b0 < 256 := by rw [← hb]; exact UInt8.toNat_lt _
  have d1 : decide ((b0 : Int) < 128) = false := by simp; omega
  have d2 : decide ((194 : Int) ≤ (b0 : Int)) = true := by simp; omega
  have d3 : decide ((b0 : Int) ≤ 223) = false := by simp; omega
  have d4 : decide ((224 : Int) ≤ (b0 : Int)) = true := by simp; omega
  have d5 : decide ((b0 : Int) ≤ 239) = true := by simp; omega
  have d6 : ((b0 : Int) == 224) = true := by simp; omega
  have d7 : ((b0 : Int) == 237) = false := by simp; omega
  have c1 : Hid (∀ w, Calls Try.prog 65 #[.string (str l), .int .i64 ((a : Int) + 1), .int .u8 160, .int .u8 191] w fun e w' => e = .returned (.bool false) ∧ w' = w) := fun w => by
    have := within_calls l (by omega) (a + 1) 160 191 w
    rw [h1] at this; exact this
  have hcm : ((2000000 + b0 : Nat) : Int) = (b0 : Int) + 2000000 := by omega
  rw [hcm]
  clear hc hb
  go_enter Try.func61, Try.ntmps61
  go_wp2_with fail
  refine (unhide c1 _).mono ?_
  rintro e w' ⟨rfl, rfl⟩
  go_wp2
  go_ret2
  exact ⟨rfl, rfl⟩
set_option maxHeartbeats 2000000 in
theorem one_C0s2 (l : List UInt8) (hl : l.length ≤ 2305843009213693952) (a : Nat) (ha : a < l.length) (b0 : Nat) (hb : (l.getD a 0).toNat = b0) (hc : b0 = 224) (w : World) (h1 : wi l (a + 1) 160 191 = true) (h2 : wi l (a + 2) 128 191 = false) :
    Calls Try.prog 61 #[.string (str l), .int .i64 (a : Int)] w fun e w' => e = .returned (.tuple #[.int .i64 ((2000000 + b0 : Nat) : Int), .int .i64 1]) ∧ w' = w := by
  have hix := str_index l a ha
  rw [hb] at hix
  have hb256 : b0 < 256 := by rw [← hb]; exact UInt8.toNat_lt _
  have d1 : decide ((b0 : Int) < 128) = false := by simp; omega
  have d2 : decide ((194 : Int) ≤ (b0 : Int)) = true := by simp; omega
  have d3 : decide ((b0 : Int) ≤ 223) = false := by simp; omega
  have d4 : decide ((224 : Int) ≤ (b0 : Int)) = true := by simp; omega
  have d5 : decide ((b0 : Int) ≤ 239) = true := by simp; omega
  have d6 : ((b0 : Int) == 224) = true := by simp; omega
  have d7 : ((b0 : Int) == 237) = false := by simp; omega
  have c1 : Hid (∀ w, Calls Try.prog 65 #[.string (str l), .int .i64 ((a : Int) + 1), .int .u8 160, .int .u8 191] w fun e w' => e = .returned (.bool true) ∧ w' = w) := fun w => by
    have := within_calls l (by omega) (a + 1) 160 191 w
    rw [h1] at this; exact this
  have c2 : Hid (∀ w, Calls Try.prog 65 #[.string (str l), .int .i64 ((a : Int) + 2), .int .u8 128, .int .u8 191] w fun e w' => e = .returned (.bool false) ∧ w' = w) := fun w => by
    have := within_calls l (by omega) (a + 2) 128 191 w
    rw [h2] at this; exact this
  have hcm : ((2000000 + b0 : Nat) : Int) = (b0 : Int) + 2000000 := by omega
  rw [hcm]
  clear hc hb
  go_enter Try.func61, Try.ntmps61
  go_wp2_with fail
  refine (unhide c1 _).mono ?_
  rintro e w' ⟨rfl, rfl⟩
  go_wp2_with fail
  refine (unhide c2 _).mono ?_
  rintro e w' ⟨rfl, rfl⟩
  go_wp2
  go_ret2
  exact ⟨rfl, rfl⟩
set_option maxHeartbeats 2000000 in
theorem one_C0r (l : List UInt8) (hl : l.length ≤ 2305843009213693952) (a : Nat) (ha : a < l.length) (b0 : Nat) (hb : (l.getD a 0).toNat = b0) (hc : b0 = 224) (w : World) (h1 : wi l (a + 1) 160 191 = true) (h2 : wi l (a + 2) 128 191 = true) :
    Calls Try.prog 61 #[.string (str l), .int .i64 (a : Int)] w fun e w' => e = .returned (.tuple #[.int .i64 (vv (b0 % 16) l a 2 : Int), .int .i64 3]) ∧ w' = w := by
  have hix := str_index l a ha
  rw [hb] at hix
  have hb256 : b0 < 256 := by rw [← hb]; exact UInt8.toNat_lt _
  have d1 : decide ((b0 : Int) < 128) = false := by simp; omega
  have d2 : decide ((194 : Int) ≤ (b0 : Int)) = true := by simp; omega
  have d3 : decide ((b0 : Int) ≤ 223) = false := by simp; omega
  have d4 : decide ((224 : Int) ≤ (b0 : Int)) = true := by simp; omega
  have d5 : decide ((b0 : Int) ≤ 239) = true := by simp; omega
  have d6 : ((b0 : Int) == 224) = true := by simp; omega
  have d7 : ((b0 : Int) == 237) = false := by simp; omega
  have c1 : Hid (∀ w, Calls Try.prog 65 #[.string (str l), .int .i64 ((a : Int) + 1), .int .u8 160, .int .u8 191] w fun e w' => e = .returned (.bool true) ∧ w' = w) := fun w => by
    have := within_calls l (by omega) (a + 1) 160 191 w
    rw [h1] at this; exact this
  have c2 : Hid (∀ w, Calls Try.prog 65 #[.string (str l), .int .i64 ((a : Int) + 2), .int .u8 128, .int .u8 191] w fun e w' => e = .returned (.bool true) ∧ w' = w) := fun w => by
    have := within_calls l (by omega) (a + 2) 128 191 w
    rw [h2] at this; exact this
  have hlen : a + 2 < l.length := by
    have := h2
    unfold wi at this
    simp only [Bool.and_eq_true, decide_eq_true_eq] at this
    exact this.1
  have hvl := vv_lt (b0 % 16) (by omega) l a
  obtain ⟨c0, hc0, ec0⟩ : ∃ c0 : Nat, Hid (b0 % 16 = c0) ∧ (b0 : Int) % 16 = (c0 : Int) := ⟨_, rfl, by omega⟩
  have e32 : (b0 : Int) % 32 = ((b0 % 32 : Nat) : Int) := by omega
  rw [unhide hc0] at hvl ⊢
  have hv0 : vv c0 l a 0 = c0 := rfl
  have Hvl := hide hvl
  clear hvl e32 h1 h2
  clear hc hb
  go_enter Try.func61, Try.ntmps61
  go_wp2_with fail
  refine (unhide c1 _).mono ?_
  rintro e w' ⟨rfl, rfl⟩
  go_wp2_with fail
  refine (unhide c2 _).mono ?_
  rintro e w' ⟨rfl, rfl⟩
  go_wp2
  go_loopw [10, 11] (fun x i wr => ∃ (j v : Nat), j ≤ 2 ∧ x = .int .i64 (v : Int) ∧ i = .int .i64 ((j + 1 : Nat) : Int) ∧ Hid (v = vv c0 l a j) ∧ wr = w') (fun _ i _ => 2 + 1 - (intOf i).toNat)
  case atStart => exact ⟨0, c0, by omega, by rw [ec0], rfl, rfl, rfl⟩
  case round =>
    obtain ⟨j, v, hj, rfl, rfl, hv, rfl⟩ := hrel
    by_cases hlt : j < 2
    · have hd : decide (((j + 1 : Nat) : Int) ≤ 2) = true := by simp; omega
      have hix2 : ∀ w, (Instr.index 9 (.string (str l)) (.int .i64 ((a : Int) + ((j + 1 : Nat) : Int)))).run Try.prog w = .ok (.int .u8 ((l.getD (a + 1 + j) 0).toNat : Int)) w := fun w => by
        have := str_index l (a + 1 + j) (by omega) w
        rw [show ((a + 1 + j : Nat) : Int) = (a : Int) + ((j + 1 : Nat) : Int) by omega] at this
        exact this
      have hvb : v < 131072 := by
        rw [unhide hv]
        refine Nat.lt_of_lt_of_le (unhide Hvl j) ?_
        have : 64 ^ j ≤ 64 ^ 2 := Nat.pow_le_pow_right (by decide) (by omega)
        omega
      obtain ⟨bj, hbj⟩ : ∃ bj, Hid ((l.getD (a + 1 + j) 0).toNat = bj) := ⟨_, rfl⟩
      rw [unhide hbj] at hix2
      have hbjb : bj < 256 := by rw [← unhide hbj]; exact UInt8.toNat_lt _
      generalize hjj : j + 1 = jj at *
      have Hjj := hide hjj
      have hjb : jj ≤ 3 := by omega
      clear hjj
      go_wp2
      go_roundw
      case rel =>
        refine ⟨j + 1, v * 64 + bj % 64, by omega, ?_, ?_, ?_, trivial⟩
        · congr 1 <;> omega
        · have hh := unhide Hjj
          rw [show ((j + 1 + 1 : Nat) : Int) = (jj : Int) + 1 by omega]
        · show _ = _
          rw [vv, ← unhide hv, unhide hbj]
      case measure => have := unhide Hjj; simp [intOf]; omega
    · obtain rfl : j = 2 := by omega
      have hd : decide (((2 + 1 : Nat) : Int) ≤ 2) = false := by decide
      have hv' := unhide hv
      subst hv'
      clear hv
      go_wp2
      go_ret2
      exact ⟨rfl, rfl⟩
set_option maxHeartbeats 2000000 in
theorem one_C1s1 (l : List UInt8) (hl : l.length ≤ 2305843009213693952) (a : Nat) (ha : a < l.length) (b0 : Nat) (hb : (l.getD a 0).toNat = b0) (hc : b0 = 237) (w : World) (h1 : wi l (a + 1) 128 159 = false) :
    Calls Try.prog 61 #[.string (str l), .int .i64 (a : Int)] w fun e w' => e = .returned (.tuple #[.int .i64 ((2000000 + b0 : Nat) : Int), .int .i64 1]) ∧ w' = w := by
  have hix := str_index l a ha
  rw [hb] at hix
  have hb256 : b0 < 256 := by rw [← hb]; exact UInt8.toNat_lt _
  have d1 : decide ((b0 : Int) < 128) = false := by simp; omega
  have d2 : decide ((194 : Int) ≤ (b0 : Int)) = true := by simp; omega
  have d3 : decide ((b0 : Int) ≤ 223) = false := by simp; omega
  have d4 : decide ((224 : Int) ≤ (b0 : Int)) = true := by simp; omega
  have d5 : decide ((b0 : Int) ≤ 239) = true := by simp; omega
  have d6 : ((b0 : Int) == 224) = false := by simp; omega
  have d7 : ((b0 : Int) == 237) = true := by simp; omega
  have c1 : Hid (∀ w, Calls Try.prog 65 #[.string (str l), .int .i64 ((a : Int) + 1), .int .u8 128, .int .u8 159] w fun e w' => e = .returned (.bool false) ∧ w' = w) := fun w => by
    have := within_calls l (by omega) (a + 1) 128 159 w
    rw [h1] at this; exact this
  have hcm : ((2000000 + b0 : Nat) : Int) = (b0 : Int) + 2000000 := by omega
  rw [hcm]
  clear hc hb
  go_enter Try.func61, Try.ntmps61
  go_wp2_with fail
  refine (unhide c1 _).mono ?_
  rintro e w' ⟨rfl, rfl⟩
  go_wp2
  go_ret2
  exact ⟨rfl, rfl⟩
set_option maxHeartbeats 2000000 in
theorem one_C1s2 (l : List UInt8) (hl : l.length ≤ 2305843009213693952) (a : Nat) (ha : a < l.length) (b0 : Nat) (hb : (l.getD a 0).toNat = b0) (hc : b0 = 237) (w : World) (h1 : wi l (a + 1) 128 159 = true) (h2 : wi l (a + 2) 128 191 = false) :
    Calls Try.prog 61 #[.string (str l), .int .i64 (a : Int)] w fun e w' => e = .returned (.tuple #[.int .i64 ((2000000 + b0 : Nat) : Int), .int .i64 1]) ∧ w' = w := by
  have hix := str_index l a ha
  rw [hb] at hix
  have hb256 : b0 < 256 := by rw [← hb]; exact UInt8.toNat_lt _
  have d1 : decide ((b0 : Int) < 128) = false := by simp; omega
  have d2 : decide ((194 : Int) ≤ (b0 : Int)) = true := by simp; omega
  have d3 : decide ((b0 : Int) ≤ 223) = false := by simp; omega
  have d4 : decide ((224 : Int) ≤ (b0 : Int)) = true := by simp; omega
  have d5 : decide ((b0 : Int) ≤ 239) = true := by simp; omega
  have d6 : ((b0 : Int) == 224) = false := by simp; omega
  have d7 : ((b0 : Int) == 237) = true := by simp; omega
  have c1 : Hid (∀ w, Calls Try.prog 65 #[.string (str l), .int .i64 ((a : Int) + 1), .int .u8 128, .int .u8 159] w fun e w' => e = .returned (.bool true) ∧ w' = w) := fun w => by
    have := within_calls l (by omega) (a + 1) 128 159 w
    rw [h1] at this; exact this
  have c2 : Hid (∀ w, Calls Try.prog 65 #[.string (str l), .int .i64 ((a : Int) + 2), .int .u8 128, .int .u8 191] w fun e w' => e = .returned (.bool false) ∧ w' = w) := fun w => by
    have := within_calls l (by omega) (a + 2) 128 191 w
    rw [h2] at this; exact this
  have hcm : ((2000000 + b0 : Nat) : Int) = (b0 : Int) + 2000000 := by omega
  rw [hcm]
  clear hc hb
  go_enter Try.func61, Try.ntmps61
  go_wp2_with fail
  refine (unhide c1 _).mono ?_
  rintro e w' ⟨rfl, rfl⟩
  go_wp2_with fail
  refine (unhide c2 _).mono ?_
  rintro e w' ⟨rfl, rfl⟩
  go_wp2
  go_ret2
  exact ⟨rfl, rfl⟩
set_option maxHeartbeats 2000000 in
theorem one_C1r (l : List UInt8) (hl : l.length ≤ 2305843009213693952) (a : Nat) (ha : a < l.length) (b0 : Nat) (hb : (l.getD a 0).toNat = b0) (hc : b0 = 237) (w : World) (h1 : wi l (a + 1) 128 159 = true) (h2 : wi l (a + 2) 128 191 = true) :
    Calls Try.prog 61 #[.string (str l), .int .i64 (a : Int)] w fun e w' => e = .returned (.tuple #[.int .i64 (vv (b0 % 16) l a 2 : Int), .int .i64 3]) ∧ w' = w := by
  have hix := str_index l a ha
  rw [hb] at hix
  have hb256 : b0 < 256 := by rw [← hb]; exact UInt8.toNat_lt _
  have d1 : decide ((b0 : Int) < 128) = false := by simp; omega
  have d2 : decide ((194 : Int) ≤ (b0 : Int)) = true := by simp; omega
  have d3 : decide ((b0 : Int) ≤ 223) = false := by simp; omega
  have d4 : decide ((224 : Int) ≤ (b0 : Int)) = true := by simp; omega
  have d5 : decide ((b0 : Int) ≤ 239) = true := by simp; omega
  have d6 : ((b0 : Int) == 224) = false := by simp; omega
  have d7 : ((b0 : Int) == 237) = true := by simp; omega
  have c1 : Hid (∀ w, Calls Try.prog 65 #[.string (str l), .int .i64 ((a : Int) + 1), .int .u8 128, .int .u8 159] w fun e w' => e = .returned (.bool true) ∧ w' = w) := fun w => by
    have := within_calls l (by omega) (a + 1) 128 159 w
    rw [h1] at this; exact this
  have c2 : Hid (∀ w, Calls Try.prog 65 #[.string (str l), .int .i64 ((a : Int) + 2), .int .u8 128, .int .u8 191] w fun e w' => e = .returned (.bool true) ∧ w' = w) := fun w => by
    have := within_calls l (by omega) (a + 2) 128 191 w
    rw [h2] at this; exact this
  have hlen : a + 2 < l.length := by
    have := h2
    unfold wi at this
    simp only [Bool.and_eq_true, decide_eq_true_eq] at this
    exact this.1
  have hvl := vv_lt (b0 % 16) (by omega) l a
  obtain ⟨c0, hc0, ec0⟩ : ∃ c0 : Nat, Hid (b0 % 16 = c0) ∧ (b0 : Int) % 16 = (c0 : Int) := ⟨_, rfl, by omega⟩
  have e32 : (b0 : Int) % 32 = ((b0 % 32 : Nat) : Int) := by omega
  rw [unhide hc0] at hvl ⊢
  have hv0 : vv c0 l a 0 = c0 := rfl
  have Hvl := hide hvl
  clear hvl e32 h1 h2
  clear hc hb
  go_enter Try.func61, Try.ntmps61
  go_wp2_with fail
  refine (unhide c1 _).mono ?_
  rintro e w' ⟨rfl, rfl⟩
  go_wp2_with fail
  refine (unhide c2 _).mono ?_
  rintro e w' ⟨rfl, rfl⟩
  go_wp2
  go_loopw [10, 11] (fun x i wr => ∃ (j v : Nat), j ≤ 2 ∧ x = .int .i64 (v : Int) ∧ i = .int .i64 ((j + 1 : Nat) : Int) ∧ Hid (v = vv c0 l a j) ∧ wr = w') (fun _ i _ => 2 + 1 - (intOf i).toNat)
  case atStart => exact ⟨0, c0, by omega, by rw [ec0], rfl, rfl, rfl⟩
  case round =>
    obtain ⟨j, v, hj, rfl, rfl, hv, rfl⟩ := hrel
    by_cases hlt : j < 2
    · have hd : decide (((j + 1 : Nat) : Int) ≤ 2) = true := by simp; omega
      have hix2 : ∀ w, (Instr.index 9 (.string (str l)) (.int .i64 ((a : Int) + ((j + 1 : Nat) : Int)))).run Try.prog w = .ok (.int .u8 ((l.getD (a + 1 + j) 0).toNat : Int)) w := fun w => by
        have := str_index l (a + 1 + j) (by omega) w
        rw [show ((a + 1 + j : Nat) : Int) = (a : Int) + ((j + 1 : Nat) : Int) by omega] at this
        exact this
      have hvb : v < 131072 := by
        rw [unhide hv]
        refine Nat.lt_of_lt_of_le (unhide Hvl j) ?_
        have : 64 ^ j ≤ 64 ^ 2 := Nat.pow_le_pow_right (by decide) (by omega)
        omega
      obtain ⟨bj, hbj⟩ : ∃ bj, Hid ((l.getD (a + 1 + j) 0).toNat = bj) := ⟨_, rfl⟩
      rw [unhide hbj] at hix2
      have hbjb : bj < 256 := by rw [← unhide hbj]; exact UInt8.toNat_lt _
      generalize hjj : j + 1 = jj at *
      have Hjj := hide hjj
      have hjb : jj ≤ 3 := by omega
      clear hjj
      go_wp2
      go_roundw
      case rel =>
        refine ⟨j + 1, v * 64 + bj % 64, by omega, ?_, ?_, ?_, trivial⟩
        · congr 1 <;> omega
        · have hh := unhide Hjj
          rw [show ((j + 1 + 1 : Nat) : Int) = (jj : Int) + 1 by omega]
        · show _ = _
          rw [vv, ← unhide hv, unhide hbj]
      case measure => have := unhide Hjj; simp [intOf]; omega
    · obtain rfl : j = 2 := by omega
      have hd : decide (((2 + 1 : Nat) : Int) ≤ 2) = false := by decide
      have hv' := unhide hv
      subst hv'
      clear hv
      go_wp2
      go_ret2
      exact ⟨rfl, rfl⟩
set_option maxHeartbeats 2000000 in
theorem one_C2s1 (l : List UInt8) (hl : l.length ≤ 2305843009213693952) (a : Nat) (ha : a < l.length) (b0 : Nat) (hb : (l.getD a 0).toNat = b0) (hc : (225 ≤ b0 ∧ b0 ≤ 236) ∨ (238 ≤ b0 ∧ b0 ≤ 239)) (w : World) (h1 : wi l (a + 1) 128 191 = false) :
    Calls Try.prog 61 #[.string (str l), .int .i64 (a : Int)] w fun e w' => e = .returned (.tuple #[.int .i64 ((2000000 + b0 : Nat) : Int), .int .i64 1]) ∧ w' = w := by
  have hix := str_index l a ha
  rw [hb] at hix
  have hb256 : b0 < 256 := by rw [← hb]; exact UInt8.toNat_lt _
  have d1 : decide ((b0 : Int) < 128) = false := by simp; omega
  have d2 : decide ((194 : Int) ≤ (b0 : Int)) = true := by simp; omega
  have d3 : decide ((b0 : Int) ≤ 223) = false := by simp; omega
  have d4 : decide ((224 : Int) ≤ (b0 : Int)) = true := by simp; omega
  have d5 : decide ((b0 : Int) ≤ 239) = true := by simp; omega
  have d6 : ((b0 : Int) == 224) = false := by simp; omega
  have d7 : ((b0 : Int) == 237) = false := by simp; omega
  have c1 : Hid (∀ w, Calls Try.prog 65 #[.string (str l), .int .i64 ((a : Int) + 1), .int .u8 128, .int .u8 191] w fun e w' => e = .returned (.bool false) ∧ w' = w) := fun w => by
    have := within_calls l (by omega) (a + 1) 128 191 w
    rw [h1] at this; exact this
  have hcm : ((2000000 + b0 : Nat) : Int) = (b0 : Int) + 2000000 := by omega
  rw [hcm]
  clear hc hb
  go_enter Try.func61, Try.ntmps61
  go_wp2_with fail
  refine (unhide c1 _).mono ?_
  rintro e w' ⟨rfl, rfl⟩
  go_wp2
  go_ret2
  exact ⟨rfl, rfl⟩
set_option maxHeartbeats 2000000 in
theorem one_C2s2 (l : List UInt8) (hl : l.length ≤ 2305843009213693952) (a : Nat) (ha : a < l.length) (b0 : Nat) (hb : (l.getD a 0).toNat = b0) (hc : (225 ≤ b0 ∧ b0 ≤ 236) ∨ (238 ≤ b0 ∧ b0 ≤ 239)) (w : World) (h1 : wi l (a + 1) 128 191 = true) (h2 : wi l (a + 2) 128 191 = false) :
    Calls Try.prog 61 #[.string (str l), .int .i64 (a : Int)] w fun e w' => e = .returned (.tuple #[.int .i64 ((2000000 + b0 : Nat) : Int), .int .i64 1]) ∧ w' = w := by
  have hix := str_index l a ha
  rw [hb] at hix
  have hb256 : b0 < 256 := by rw [← hb]; exact UInt8.toNat_lt _
  have d1 : decide ((b0 : Int) < 128) = false := by simp; omega
  have d2 : decide ((194 : Int) ≤ (b0 : Int)) = true := by simp; omega
  have d3 : decide ((b0 : Int) ≤ 223) = false := by simp; omega
  have d4 : decide ((224 : Int) ≤ (b0 : Int)) = true := by simp; omega
  have d5 : decide ((b0 : Int) ≤ 239) = true := by simp; omega
  have d6 : ((b0 : Int) == 224) = false := by simp; omega
  have d7 : ((b0 : Int) == 237) = false := by simp; omega
  have c1 : Hid (∀ w, Calls Try.prog 65 #[.string (str l), .int .i64 ((a : Int) + 1), .int .u8 128, .int .u8 191] w fun e w' => e = .returned (.bool true) ∧ w' = w) := fun w => by
    have := within_calls l (by omega) (a + 1) 128 191 w
    rw [h1] at this; exact this
  have c2 : Hid (∀ w, Calls Try.prog 65 #[.string (str l), .int .i64 ((a : Int) + 2), .int .u8 128, .int .u8 191] w fun e w' => e = .returned (.bool false) ∧ w' = w) := fun w => by
    have := within_calls l (by omega) (a + 2) 128 191 w
    rw [h2] at this; exact this
  have hcm : ((2000000 + b0 : Nat) : Int) = (b0 : Int) + 2000000 := by omega
  rw [hcm]
  clear hc hb
  go_enter Try.func61, Try.ntmps61
  go_wp2_with fail
  refine (unhide c1 _).mono ?_
  rintro e w' ⟨rfl, rfl⟩
  go_wp2_with fail
  refine (unhide c2 _).mono ?_
  rintro e w' ⟨rfl, rfl⟩
  go_wp2
  go_ret2
  exact ⟨rfl, rfl⟩
set_option maxHeartbeats 2000000 in
theorem one_C2r (l : List UInt8) (hl : l.length ≤ 2305843009213693952) (a : Nat) (ha : a < l.length) (b0 : Nat) (hb : (l.getD a 0).toNat = b0) (hc : (225 ≤ b0 ∧ b0 ≤ 236) ∨ (238 ≤ b0 ∧ b0 ≤ 239)) (w : World) (h1 : wi l (a + 1) 128 191 = true) (h2 : wi l (a + 2) 128 191 = true) :
    Calls Try.prog 61 #[.string (str l), .int .i64 (a : Int)] w fun e w' => e = .returned (.tuple #[.int .i64 (vv (b0 % 16) l a 2 : Int), .int .i64 3]) ∧ w' = w := by
  have hix := str_index l a ha
  rw [hb] at hix
  have hb256 : b0 < 256 := by rw [← hb]; exact UInt8.toNat_lt _
  have d1 : decide ((b0 : Int) < 128) = false := by simp; omega
  have d2 : decide ((194 : Int) ≤ (b0 : Int)) = true := by simp; omega
  have d3 : decide ((b0 : Int) ≤ 223) = false := by simp; omega
  have d4 : decide ((224 : Int) ≤ (b0 : Int)) = true := by simp; omega
  have d5 : decide ((b0 : Int) ≤ 239) = true := by simp; omega
  have d6 : ((b0 : Int) == 224) = false := by simp; omega
  have d7 : ((b0 : Int) == 237) = false := by simp; omega
  have c1 : Hid (∀ w, Calls Try.prog 65 #[.string (str l), .int .i64 ((a : Int) + 1), .int .u8 128, .int .u8 191] w fun e w' => e = .returned (.bool true) ∧ w' = w) := fun w => by
    have := within_calls l (by omega) (a + 1) 128 191 w
    rw [h1] at this; exact this
  have c2 : Hid (∀ w, Calls Try.prog 65 #[.string (str l), .int .i64 ((a : Int) + 2), .int .u8 128, .int .u8 191] w fun e w' => e = .returned (.bool true) ∧ w' = w) := fun w => by
    have := within_calls l (by omega) (a + 2) 128 191 w
    rw [h2] at this; exact this
  have hlen : a + 2 < l.length := by
    have := h2
    unfold wi at this
    simp only [Bool.and_eq_true, decide_eq_true_eq] at this
    exact this.1
  have hvl := vv_lt (b0 % 16) (by omega) l a
  obtain ⟨c0, hc0, ec0⟩ : ∃ c0 : Nat, Hid (b0 % 16 = c0) ∧ (b0 : Int) % 16 = (c0 : Int) := ⟨_, rfl, by omega⟩
  have e32 : (b0 : Int) % 32 = ((b0 % 32 : Nat) : Int) := by omega
  rw [unhide hc0] at hvl ⊢
  have hv0 : vv c0 l a 0 = c0 := rfl
  have Hvl := hide hvl
  clear hvl e32 h1 h2
  clear hc hb
  go_enter Try.func61, Try.ntmps61
  go_wp2_with fail
  refine (unhide c1 _).mono ?_
  rintro e w' ⟨rfl, rfl⟩
  go_wp2_with fail
  refine (unhide c2 _).mono ?_
  rintro e w' ⟨rfl, rfl⟩
  go_wp2
  go_loopw [10, 11] (fun x i wr => ∃ (j v : Nat), j ≤ 2 ∧ x = .int .i64 (v : Int) ∧ i = .int .i64 ((j + 1 : Nat) : Int) ∧ Hid (v = vv c0 l a j) ∧ wr = w') (fun _ i _ => 2 + 1 - (intOf i).toNat)
  case atStart => exact ⟨0, c0, by omega, by rw [ec0], rfl, rfl, rfl⟩
  case round =>
    obtain ⟨j, v, hj, rfl, rfl, hv, rfl⟩ := hrel
    by_cases hlt : j < 2
    · have hd : decide (((j + 1 : Nat) : Int) ≤ 2) = true := by simp; omega
      have hix2 : ∀ w, (Instr.index 9 (.string (str l)) (.int .i64 ((a : Int) + ((j + 1 : Nat) : Int)))).run Try.prog w = .ok (.int .u8 ((l.getD (a + 1 + j) 0).toNat : Int)) w := fun w => by
        have := str_index l (a + 1 + j) (by omega) w
        rw [show ((a + 1 + j : Nat) : Int) = (a : Int) + ((j + 1 : Nat) : Int) by omega] at this
        exact this
      have hvb : v < 131072 := by
        rw [unhide hv]
        refine Nat.lt_of_lt_of_le (unhide Hvl j) ?_
        have : 64 ^ j ≤ 64 ^ 2 := Nat.pow_le_pow_right (by decide) (by omega)
        omega
      obtain ⟨bj, hbj⟩ : ∃ bj, Hid ((l.getD (a + 1 + j) 0).toNat = bj) := ⟨_, rfl⟩
      rw [unhide hbj] at hix2
      have hbjb : bj < 256 := by rw [← unhide hbj]; exact UInt8.toNat_lt _
      generalize hjj : j + 1 = jj at *
      have Hjj := hide hjj
      have hjb : jj ≤ 3 := by omega
      clear hjj
      go_wp2
      go_roundw
      case rel =>
        refine ⟨j + 1, v * 64 + bj % 64, by omega, ?_, ?_, ?_, trivial⟩
        · congr 1 <;> omega
        · have hh := unhide Hjj
          rw [show ((j + 1 + 1 : Nat) : Int) = (jj : Int) + 1 by omega]
        · show _ = _
          rw [vv, ← unhide hv, unhide hbj]
      case measure => have := unhide Hjj; simp [intOf]; omega
    · obtain rfl : j = 2 := by omega
      have hd : decide (((2 + 1 : Nat) : Int) ≤ 2) = false := by decide
      have hv' := unhide hv
      subst hv'
      clear hv
      go_wp2
      go_ret2
      exact ⟨rfl, rfl⟩
set_option maxHeartbeats 2000000 in
theorem one_D0s1 (l : List UInt8) (hl : l.length ≤ 2305843009213693952) (a : Nat) (ha : a < l.length) (b0 : Nat) (hb : (l.getD a 0).toNat = b0) (hc : b0 = 240) (w : World) (h1 : wi l (a + 1) 144 191 = false) :
    Calls Try.prog 61 #[.string (str l), .int .i64 (a : Int)] w fun e w' => e = .returned (.tuple #[.int .i64 ((2000000 + b0 : Nat) : Int), .int .i64 1]) ∧ w' = w := by
  have hix := str_index l a ha
  rw [hb] at hix
  have hb256 : b0 < 256 := by rw [← hb]; exact UInt8.toNat_lt _
  have d1 : decide ((b0 : Int) < 128) = false := by simp; omega
  have d2 : decide ((194 : Int) ≤ (b0 : Int)) = true := by simp; omega
  have d3 : decide ((b0 : Int) ≤ 223) = false := by simp; omega
  have d4 : decide ((224 : Int) ≤ (b0 : Int)) = true := by simp; omega
  have d5 : decide ((b0 : Int) ≤ 239) = false := by simp; omega
  have d8 : decide ((240 : Int) ≤ (b0 : Int)) = true := by simp; omega
  have d9 : decide ((b0 : Int) ≤ 244) = true := by simp; omega
  have d10 : ((b0 : Int) == 240) = true := by simp; omega
  have d11 : ((b0 : Int) == 244) = false := by simp; omega
  have c1 : Hid (∀ w, Calls Try.prog 65 #[.string (str l), .int .i64 ((a : Int) + 1), .int .u8 144, .int .u8 191] w fun e w' => e = .returned (.bool false) ∧ w' = w) := fun w => by
    have := within_calls l (by omega) (a + 1) 144 191 w
    rw [h1] at this; exact this
  have hcm : ((2000000 + b0 : Nat) : Int) = (b0 : Int) + 2000000 := by omega
  rw [hcm]
  clear hc hb
  go_enter Try.func61, Try.ntmps61
  go_wp2_with fail
  refine (unhide c1 _).mono ?_
  rintro e w' ⟨rfl, rfl⟩
  go_wp2
  go_ret2
  exact ⟨rfl, rfl⟩
set_option maxHeartbeats 2000000 in
theorem one_D0s2 (l : List UInt8) (hl : l.length ≤ 2305843009213693952) (a : Nat) (ha : a < l.length) (b0 : Nat) (hb : (l.getD a 0).toNat = b0) (hc : b0 = 240) (w : World) (h1 : wi l (a + 1) 144 191 = true) (h2 : wi l (a + 2) 128 191 = false) :
    Calls Try.prog 61 #[.string (str l), .int .i64 (a : Int)] w fun e w' => e = .returned (.tuple #[.int .i64 ((2000000 + b0 : Nat) : Int), .int .i64 1]) ∧ w' = w := by
  have hix := str_index l a ha
  rw [hb] at hix
  have hb256 : b0 < 256 := by rw [← hb]; exact UInt8.toNat_lt _
  have d1 : decide ((b0 : Int) < 128) = false := by simp; omega
  have d2 : decide ((194 : Int) ≤ (b0 : Int)) = true := by simp; omega
  have d3 : decide ((b0 : Int) ≤ 223) = false := by simp; omega
  have d4 : decide ((224 : Int) ≤ (b0 : Int)) = true := by simp; omega
  have d5 : decide ((b0 : Int) ≤ 239) = false := by simp; omega
  have d8 : decide ((240 : Int) ≤ (b0 : Int)) = true := by simp; omega
  have d9 : decide ((b0 : Int) ≤ 244) = true := by simp; omega
  have d10 : ((b0 : Int) == 240) = true := by simp; omega
  have d11 : ((b0 : Int) == 244) = false := by simp; omega
  have c1 : Hid (∀ w, Calls Try.prog 65 #[.string (str l), .int .i64 ((a : Int) + 1), .int .u8 144, .int .u8 191] w fun e w' => e = .returned (.bool true) ∧ w' = w) := fun w => by
    have := within_calls l (by omega) (a + 1) 144 191 w
    rw [h1] at this; exact this
  have c2 : Hid (∀ w, Calls Try.prog 65 #[.string (str l), .int .i64 ((a : Int) + 2), .int .u8 128, .int .u8 191] w fun e w' => e = .returned (.bool false) ∧ w' = w) := fun w => by
    have := within_calls l (by omega) (a + 2) 128 191 w
    rw [h2] at this; exact this
  have hcm : ((2000000 + b0 : Nat) : Int) = (b0 : Int) + 2000000 := by omega
  rw [hcm]
  clear hc hb
  go_enter Try.func61, Try.ntmps61
  go_wp2_with fail
  refine (unhide c1 _).mono ?_
  rintro e w' ⟨rfl, rfl⟩
  go_wp2_with fail
  refine (unhide c2 _).mono ?_
  rintro e w' ⟨rfl, rfl⟩
  go_wp2
  go_ret2
  exact ⟨rfl, rfl⟩
set_option maxHeartbeats 2000000 in
theorem one_D0s3 (l : List UInt8) (hl : l.length ≤ 2305843009213693952) (a : Nat) (ha : a < l.length) (b0 : Nat) (hb : (l.getD a 0).toNat = b0) (hc : b0 = 240) (w : World) (h1 : wi l (a + 1) 144 191 = true) (h2 : wi l (a + 2) 128 191 = true) (h3 : wi l (a + 3) 128 191 = false) :
    Calls Try.prog 61 #[.string (str l), .int .i64 (a : Int)] w fun e w' => e = .returned (.tuple #[.int .i64 ((2000000 + b0 : Nat) : Int), .int .i64 1]) ∧ w' = w := by
  have hix := str_index l a ha
  rw [hb] at hix
  have hb256 : b0 < 256 := by rw [← hb]; exact UInt8.toNat_lt _
  have d1 : decide ((b0 : Int) < 128) = false := by simp; omega
  have d2 : decide ((194 : Int) ≤ (b0 : Int)) = true := by simp; omega
  have d3 : decide ((b0 : Int) ≤ 223) = false := by simp; omega
  have d4 : decide ((224 : Int) ≤ (b0 : Int)) = true := by simp; omega
  have d5 : decide ((b0 : Int) ≤ 239) = false := by simp; omega
  have d8 : decide ((240 : Int) ≤ (b0 : Int)) = true := by simp; omega
  have d9 : decide ((b0 : Int) ≤ 244) = true := by simp; omega
  have d10 : ((b0 : Int) == 240) = true := by simp; omega
  have d11 : ((b0 : Int) == 244) = false := by simp; omega
  have c1 : Hid (∀ w, Calls Try.prog 65 #[.string (str l), .int .i64 ((a : Int) + 1), .int .u8 144, .int .u8 191] w fun e w' => e = .returned (.bool true) ∧ w' = w) := fun w => by
    have := within_calls l (by omega) (a + 1) 144 191 w
    rw [h1] at this; exact this
  have c2 : Hid (∀ w, Calls Try.prog 65 #[.string (str l), .int .i64 ((a : Int) + 2), .int .u8 128, .int .u8 191] w fun e w' => e = .returned (.bool true) ∧ w' = w) := fun w => by
    have := within_calls l (by omega) (a + 2) 128 191 w
    rw [h2] at this; exact this
  have c3 : Hid (∀ w, Calls Try.prog 65 #[.string (str l), .int .i64 ((a : Int) + 3), .int .u8 128, .int .u8 191] w fun e w' => e = .returned (.bool false) ∧ w' = w) := fun w => by
    have := within_calls l (by omega) (a + 3) 128 191 w
    rw [h3] at this; exact this
  have hcm : ((2000000 + b0 : Nat) : Int) = (b0 : Int) + 2000000 := by omega
  rw [hcm]
  clear hc hb
  go_enter Try.func61, Try.ntmps61
  go_wp2_with fail
  refine (unhide c1 _).mono ?_
  rintro e w' ⟨rfl, rfl⟩
  go_wp2_with fail
  refine (unhide c2 _).mono ?_
  rintro e w' ⟨rfl, rfl⟩
  go_wp2_with fail
  refine (unhide c3 _).mono ?_
  rintro e w' ⟨rfl, rfl⟩
  go_wp2
  go_ret2
  exact ⟨rfl, rfl⟩
set_option maxHeartbeats 2000000 in
theorem one_D0r (l : List UInt8) (hl : l.length ≤ 2305843009213693952) (a : Nat) (ha : a < l.length) (b0 : Nat) (hb : (l.getD a 0).toNat = b0) (hc : b0 = 240) (w : World) (h1 : wi l (a + 1) 144 191 = true) (h2 : wi l (a + 2) 128 191 = true) (h3 : wi l (a + 3) 128 191 = true) :
    Calls Try.prog 61 #[.string (str l), .int .i64 (a : Int)] w fun e w' => e = .returned (.tuple #[.int .i64 (vv (b0 % 8) l a 3 : Int), .int .i64 4]) ∧ w' = w := by
  have hix := str_index l a ha
  rw [hb] at hix
  have hb256 : b0 < 256 := by rw [← hb]; exact UInt8.toNat_lt _
  have d1 : decide ((b0 : Int) < 128) = false := by simp; omega
  have d2 : decide ((194 : Int) ≤ (b0 : Int)) = true := by simp; omega
  have d3 : decide ((b0 : Int) ≤ 223) = false := by simp; omega
  have d4 : decide ((224 : Int) ≤ (b0 : Int)) = true := by simp; omega
  have d5 : decide ((b0 : Int) ≤ 239) = false := by simp; omega
  have d8 : decide ((240 : Int) ≤ (b0 : Int)) = true := by simp; omega
  have d9 : decide ((b0 : Int) ≤ 244) = true := by simp; omega
  have d10 : ((b0 : Int) == 240) = true := by simp; omega
  have d11 : ((b0 : Int) == 244) = false := by simp; omega
  have c1 : Hid (∀ w, Calls Try.prog 65 #[.string (str l), .int .i64 ((a : Int) + 1), .int .u8 144, .int .u8 191] w fun e w' => e = .returned (.bool true) ∧ w' = w) := fun w => by
    have := within_calls l (by omega) (a + 1) 144 191 w
    rw [h1] at this; exact this
  have c2 : Hid (∀ w, Calls Try.prog 65 #[.string (str l), .int .i64 ((a : Int) + 2), .int .u8 128, .int .u8 191] w fun e w' => e = .returned (.bool true) ∧ w' = w) := fun w => by
    have := within_calls l (by omega) (a + 2) 128 191 w
    rw [h2] at this; exact this
  have c3 : Hid (∀ w, Calls Try.prog 65 #[.string (str l), .int .i64 ((a : Int) + 3), .int .u8 128, .int .u8 191] w fun e w' => e = .returned (.bool true) ∧ w' = w) := fun w => by
    have := within_calls l (by omega) (a + 3) 128 191 w
    rw [h3] at this; exact this
  have hlen : a + 3 < l.length := by
    have := h3
    unfold wi at this
    simp only [Bool.and_eq_true, decide_eq_true_eq] at this
    exact this.1
  have hvl := vv_lt (b0 % 8) (by omega) l a
  obtain ⟨c0, hc0, ec0⟩ : ∃ c0 : Nat, Hid (b0 % 8 = c0) ∧ (b0 : Int) % 8 = (c0 : Int) := ⟨_, rfl, by omega⟩
  have e32 : (b0 : Int) % 32 = ((b0 % 32 : Nat) : Int) := by omega
  rw [unhide hc0] at hvl ⊢
  have hv0 : vv c0 l a 0 = c0 := rfl
  have Hvl := hide hvl
  clear hvl e32 h1 h2 h3
  clear hc hb
  go_enter Try.func61, Try.ntmps61
  go_wp2_with fail
  refine (unhide c1 _).mono ?_
  rintro e w' ⟨rfl, rfl⟩
  go_wp2_with fail
  refine (unhide c2 _).mono ?_
  rintro e w' ⟨rfl, rfl⟩
  go_wp2_with fail
  refine (unhide c3 _).mono ?_
  rintro e w' ⟨rfl, rfl⟩
  go_wp2
  go_loopw [10, 11] (fun x i wr => ∃ (j v : Nat), j ≤ 3 ∧ x = .int .i64 (v : Int) ∧ i = .int .i64 ((j + 1 : Nat) : Int) ∧ Hid (v = vv c0 l a j) ∧ wr = w') (fun _ i _ => 3 + 1 - (intOf i).toNat)
  case atStart => exact ⟨0, c0, by omega, by rw [ec0], rfl, rfl, rfl⟩
  case round =>
    obtain ⟨j, v, hj, rfl, rfl, hv, rfl⟩ := hrel
    by_cases hlt : j < 3
    · have hd : decide (((j + 1 : Nat) : Int) ≤ 3) = true := by simp; omega
      have hix2 : ∀ w, (Instr.index 9 (.string (str l)) (.int .i64 ((a : Int) + ((j + 1 : Nat) : Int)))).run Try.prog w = .ok (.int .u8 ((l.getD (a + 1 + j) 0).toNat : Int)) w := fun w => by
        have := str_index l (a + 1 + j) (by omega) w
        rw [show ((a + 1 + j : Nat) : Int) = (a : Int) + ((j + 1 : Nat) : Int) by omega] at this
        exact this
      have hvb : v < 131072 := by
        rw [unhide hv]
        refine Nat.lt_of_lt_of_le (unhide Hvl j) ?_
        have : 64 ^ j ≤ 64 ^ 2 := Nat.pow_le_pow_right (by decide) (by omega)
        omega
      obtain ⟨bj, hbj⟩ : ∃ bj, Hid ((l.getD (a + 1 + j) 0).toNat = bj) := ⟨_, rfl⟩
      rw [unhide hbj] at hix2
      have hbjb : bj < 256 := by rw [← unhide hbj]; exact UInt8.toNat_lt _
      generalize hjj : j + 1 = jj at *
      have Hjj := hide hjj
      have hjb : jj ≤ 3 := by omega
      clear hjj
      go_wp2
      go_roundw
      case rel =>
        refine ⟨j + 1, v * 64 + bj % 64, by omega, ?_, ?_, ?_, trivial⟩
        · congr 1 <;> omega
        · have hh := unhide Hjj
          rw [show ((j + 1 + 1 : Nat) : Int) = (jj : Int) + 1 by omega]
        · show _ = _
          rw [vv, ← unhide hv, unhide hbj]
      case measure => have := unhide Hjj; simp [intOf]; omega
    · obtain rfl : j = 3 := by omega
      have hd : decide (((3 + 1 : Nat) : Int) ≤ 3) = false := by decide
      have hv' := unhide hv
      subst hv'
      clear hv
      go_wp2
      go_ret2
      exact ⟨rfl, rfl⟩
set_option maxHeartbeats 2000000 in
theorem one_D1s1 (l : List UInt8) (hl : l.length ≤ 2305843009213693952) (a : Nat) (ha : a < l.length) (b0 : Nat) (hb : (l.getD a 0).toNat = b0) (hc : b0 = 244) (w : World) (h1 : wi l (a + 1) 128 143 = false) :
    Calls Try.prog 61 #[.string (str l), .int .i64 (a : Int)] w fun e w' => e = .returned (.tuple #[.int .i64 ((2000000 + b0 : Nat) : Int), .int .i64 1]) ∧ w' = w := by
  have hix := str_index l a ha
  rw [hb] at hix
  have hb256 : b0 < 256 := by rw [← hb]; exact UInt8.toNat_lt _
  have d1 : decide ((b0 : Int) < 128) = false := by simp; omega
  have d2 : decide ((194 : Int) ≤ (b0 : Int)) = true := by simp; omega
  have d3 : decide ((b0 : Int) ≤ 223) = false := by simp; omega
  have d4 : decide ((224 : Int) ≤ (b0 : Int)) = true := by simp; omega
  have d5 : decide ((b0 : Int) ≤ 239) = false := by simp; omega
  have d8 : decide ((240 : Int) ≤ (b0 : Int)) = true := by simp; omega
  have d9 : decide ((b0 : Int) ≤ 244) = true := by simp; omega
  have d10 : ((b0 : Int) == 240) = false := by simp; omega
  have d11 : ((b0 : Int) == 244) = true := by simp; omega
  have c1 : Hid (∀ w, Calls Try.prog 65 #[.string (str l), .int .i64 ((a : Int) + 1), .int .u8 128, .int .u8 143] w fun e w' => e = .returned (.bool false) ∧ w' = w) := fun w => by
    have := within_calls l (by omega) (a + 1) 128 143 w
    rw [h1] at this; exact this
  have hcm : ((2000000 + b0 : Nat) : Int) = (b0 : Int) + 2000000 := by omega
  rw [hcm]
  clear hc hb
  go_enter Try.func61, Try.ntmps61
  go_wp2_with fail
  refine (unhide c1 _).mono ?_
  rintro e w' ⟨rfl, rfl⟩
  go_wp2
  go_ret2
  exact ⟨rfl, rfl⟩
set_option maxHeartbeats 2000000 in
theorem one_D1s2 (l : List UInt8) (hl : l.length ≤ 2305843009213693952) (a : Nat) (ha : a < l.length) (b0 : Nat) (hb : (l.getD a 0).toNat = b0) (hc : b0 = 244) (w : World) (h1 : wi l (a + 1) 128 143 = true) (h2 : wi l (a + 2) 128 191 = false) :
    Calls Try.prog 61 #[.string (str l), .int .i64 (a : Int)] w fun e w' => e = .returned (.tuple #[.int .i64 ((2000000 + b0 : Nat) : Int), .int .i64 1]) ∧ w' = w := by
  have hix := str_index l a ha
  rw [hb] at hix
  have hb256 : b0 < 256 := by rw [← hb]; exact UInt8.toNat_lt _
  have d1 : decide ((b0 : Int) < 128) = false := by simp; omega
  have d2 : decide ((194 : Int) ≤ (b0 : Int)) = true := by simp; omega
  have d3 : decide ((b0 : Int) ≤ 223) = false := by simp; omega
  have d4 : decide ((224 : Int) ≤ (b0 : Int)) = true := by simp; omega
  have d5 : decide ((b0 : Int) ≤ 239) = false := by simp; omega
  have d8 : decide ((240 : Int) ≤ (b0 : Int)) = true := by simp; omega
  have d9 : decide ((b0 : Int) ≤ 244) = true := by simp; omega
  have d10 : ((b0 : Int) == 240) = false := by simp; omega
  have d11 : ((b0 : Int) == 244) = true := by simp; omega
  have c1 : Hid (∀ w, Calls Try.prog 65 #[.string (str l), .int .i64 ((a : Int) + 1), .int .u8 128, .int .u8 143] w fun e w' => e = .returned (.bool true) ∧ w' = w) := fun w => by
    have := within_calls l (by omega) (a + 1) 128 143 w
    rw [h1] at this; exact this
  have c2 : Hid (∀ w, Calls Try.prog 65 #[.string (str l), .int .i64 ((a : Int) + 2), .int .u8 128, .int .u8 191] w fun e w' => e = .returned (.bool false) ∧ w' = w) := fun w => by
    have := within_calls l (by omega) (a + 2) 128 191 w
    rw [h2] at this; exact this
  have hcm : ((2000000 + b0 : Nat) : Int) = (b0 : Int) + 2000000 := by omega
  rw [hcm]
  clear hc hb
  go_enter Try.func61, Try.ntmps61
  go_wp2_with fail
  refine (unhide c1 _).mono ?_
  rintro e w' ⟨rfl, rfl⟩
  go_wp2_with fail
  refine (unhide c2 _).mono ?_
  rintro e w' ⟨rfl, rfl⟩
  go_wp2
  go_ret2
  exact ⟨rfl, rfl⟩
set_option maxHeartbeats 2000000 in
theorem one_D1s3 (l : List UInt8) (hl : l.length ≤ 2305843009213693952) (a : Nat) (ha : a < l.length) (b0 : Nat) (hb : (l.getD a 0).toNat = b0) (hc : b0 = 244) (w : World) (h1 : wi l (a + 1) 128 143 = true) (h2 : wi l (a + 2) 128 191 = true) (h3 : wi l (a + 3) 128 191 = false) :
    Calls Try.prog 61 #[.string (str l), .int .i64 (a : Int)] w fun e w' => e = .returned (.tuple #[.int .i64 ((2000000 + b0 : Nat) : Int), .int .i64 1]) ∧ w' = w := by
  have hix := str_index l a ha
  rw [hb] at hix
  have hb256 : b0 < 256 := by rw [← hb]; exact UInt8.toNat_lt _
  have d1 : decide ((b0 : Int) < 128) = false := by simp; omega
  have d2 : decide ((194 : Int) ≤ (b0 : Int)) = true := by simp; omega
  have d3 : decide ((b0 : Int) ≤ 223) = false := by simp; omega
  have d4 : decide ((224 : Int) ≤ (b0 : Int)) = true := by simp; omega
  have d5 : decide ((b0 : Int) ≤ 239) = false := by simp; omega
  have d8 : decide ((240 : Int) ≤ (b0 : Int)) = true := by simp; omega
  have d9 : decide ((b0 : Int) ≤ 244) = true := by simp; omega
  have d10 : ((b0 : Int) == 240) = false := by simp; omega
  have d11 : ((b0 : Int) == 244) = true := by simp; omega
  have c1 : Hid (∀ w, Calls Try.prog 65 #[.string (str l), .int .i64 ((a : Int) + 1), .int .u8 128, .int .u8 143] w fun e w' => e = .returned (.bool true) ∧ w' = w) := fun w => by
    have := within_calls l (by omega) (a + 1) 128 143 w
    rw [h1] at this; exact this
  have c2 : Hid (∀ w, Calls Try.prog 65 #[.string (str l), .int .i64 ((a : Int) + 2), .int .u8 128, .int .u8 191] w fun e w' => e = .returned (.bool true) ∧ w' = w) := fun w => by
    have := within_calls l (by omega) (a + 2) 128 191 w
    rw [h2] at this; exact this
  have c3 : Hid (∀ w, Calls Try.prog 65 #[.string (str l), .int .i64 ((a : Int) + 3), .int .u8 128, .int .u8 191] w fun e w' => e = .returned (.bool false) ∧ w' = w) := fun w => by
    have := within_calls l (by omega) (a + 3) 128 191 w
    rw [h3] at this; exact this
  have hcm : ((2000000 + b0 : Nat) : Int) = (b0 : Int) + 2000000 := by omega
  rw [hcm]
  clear hc hb
  go_enter Try.func61, Try.ntmps61
  go_wp2_with fail
  refine (unhide c1 _).mono ?_
  rintro e w' ⟨rfl, rfl⟩
  go_wp2_with fail
  refine (unhide c2 _).mono ?_
  rintro e w' ⟨rfl, rfl⟩
  go_wp2_with fail
  refine (unhide c3 _).mono ?_
  rintro e w' ⟨rfl, rfl⟩
  go_wp2
  go_ret2
  exact ⟨rfl, rfl⟩
set_option maxHeartbeats 2000000 in
theorem one_D1r (l : List UInt8) (hl : l.length ≤ 2305843009213693952) (a : Nat) (ha : a < l.length) (b0 : Nat) (hb : (l.getD a 0).toNat = b0) (hc : b0 = 244) (w : World) (h1 : wi l (a + 1) 128 143 = true) (h2 : wi l (a + 2) 128 191 = true) (h3 : wi l (a + 3) 128 191 = true) :
    Calls Try.prog 61 #[.string (str l), .int .i64 (a : Int)] w fun e w' => e = .returned (.tuple #[.int .i64 (vv (b0 % 8) l a 3 : Int), .int .i64 4]) ∧ w' = w := by
  have hix := str_index l a ha
  rw [hb] at hix
  have hb256 : b0 < 256 := by rw [← hb]; exact UInt8.toNat_lt _
  have d1 : decide ((b0 : Int) < 128) = false := by simp; omega
  have d2 : decide ((194 : Int) ≤ (b0 : Int)) = true := by simp; omega
  have d3 : decide ((b0 : Int) ≤ 223) = false := by simp; omega
  have d4 : decide ((224 : Int) ≤ (b0 : Int)) = true := by simp; omega
  have d5 : decide ((b0 : Int) ≤ 239) = false := by simp; omega
  have d8 : decide ((240 : Int) ≤ (b0 : Int)) = true := by simp; omega
  have d9 : decide ((b0 : Int) ≤ 244) = true := by simp; omega
  have d10 : ((b0 : Int) == 240) = false := by simp; omega
  have d11 : ((b0 : Int) == 244) = true := by simp; omega
  have c1 : Hid (∀ w, Calls Try.prog 65 #[.string (str l), .int .i64 ((a : Int) + 1), .int .u8 128, .int .u8 143] w fun e w' => e = .returned (.bool true) ∧ w' = w) := fun w => by
    have := within_calls l (by omega) (a + 1) 128 143 w
    rw [h1] at this; exact this
  have c2 : Hid (∀ w, Calls Try.prog 65 #[.string (str l), .int .i64 ((a : Int) + 2), .int .u8 128, .int .u8 191] w fun e w' => e = .returned (.bool true) ∧ w' = w) := fun w => by
    have := within_calls l (by omega) (a + 2) 128 191 w
    rw [h2] at this; exact this
  have c3 : Hid (∀ w, Calls Try.prog 65 #[.string (str l), .int .i64 ((a : Int) + 3), .int .u8 128, .int .u8 191] w fun e w' => e = .returned (.bool true) ∧ w' = w) := fun w => by
    have := within_calls l (by omega) (a + 3) 128 191 w
    rw [h3] at this; exact this
  have hlen : a + 3 < l.length := by
    have := h3
    unfold wi at this
    simp only [Bool.and_eq_true, decide_eq_true_eq] at this
    exact this.1
  have hvl := vv_lt (b0 % 8) (by omega) l a
  obtain ⟨c0, hc0, ec0⟩ : ∃ c0 : Nat, Hid (b0 % 8 = c0) ∧ (b0 : Int) % 8 = (c0 : Int) := ⟨_, rfl, by omega⟩
  have e32 : (b0 : Int) % 32 = ((b0 % 32 : Nat) : Int) := by omega
  rw [unhide hc0] at hvl ⊢
  have hv0 : vv c0 l a 0 = c0 := rfl
  have Hvl := hide hvl
  clear hvl e32 h1 h2 h3
  clear hc hb
  go_enter Try.func61, Try.ntmps61
  go_wp2_with fail
  refine (unhide c1 _).mono ?_
  rintro e w' ⟨rfl, rfl⟩
  go_wp2_with fail
  refine (unhide c2 _).mono ?_
  rintro e w' ⟨rfl, rfl⟩
  go_wp2_with fail
  refine (unhide c3 _).mono ?_
  rintro e w' ⟨rfl, rfl⟩
  go_wp2
  go_loopw [10, 11] (fun x i wr => ∃ (j v : Nat), j ≤ 3 ∧ x = .int .i64 (v : Int) ∧ i = .int .i64 ((j + 1 : Nat) : Int) ∧ Hid (v = vv c0 l a j) ∧ wr = w') (fun _ i _ => 3 + 1 - (intOf i).toNat)
  case atStart => exact ⟨0, c0, by omega, by rw [ec0], rfl, rfl, rfl⟩
  case round =>
    obtain ⟨j, v, hj, rfl, rfl, hv, rfl⟩ := hrel
    by_cases hlt : j < 3
    · have hd : decide (((j + 1 : Nat) : Int) ≤ 3) = true := by simp; omega
      have hix2 : ∀ w, (Instr.index 9 (.string (str l)) (.int .i64 ((a : Int) + ((j + 1 : Nat) : Int)))).run Try.prog w = .ok (.int .u8 ((l.getD (a + 1 + j) 0).toNat : Int)) w := fun w => by
        have := str_index l (a + 1 + j) (by omega) w
        rw [show ((a + 1 + j : Nat) : Int) = (a : Int) + ((j + 1 : Nat) : Int) by omega] at this
        exact this
      have hvb : v < 131072 := by
        rw [unhide hv]
        refine Nat.lt_of_lt_of_le (unhide Hvl j) ?_
        have : 64 ^ j ≤ 64 ^ 2 := Nat.pow_le_pow_right (by decide) (by omega)
        omega
      obtain ⟨bj, hbj⟩ : ∃ bj, Hid ((l.getD (a + 1 + j) 0).toNat = bj) := ⟨_, rfl⟩
      rw [unhide hbj] at hix2
      have hbjb : bj < 256 := by rw [← unhide hbj]; exact UInt8.toNat_lt _
      generalize hjj : j + 1 = jj at *
      have Hjj := hide hjj
      have hjb : jj ≤ 3 := by omega
      clear hjj
      go_wp2
      go_roundw
      case rel =>
        refine ⟨j + 1, v * 64 + bj % 64, by omega, ?_, ?_, ?_, trivial⟩
        · congr 1 <;> omega
        · have hh := unhide Hjj
          rw [show ((j + 1 + 1 : Nat) : Int) = (jj : Int) + 1 by omega]
        · show _ = _
          rw [vv, ← unhide hv, unhide hbj]
      case measure => have := unhide Hjj; simp [intOf]; omega
    · obtain rfl : j = 3 := by omega
      have hd : decide (((3 + 1 : Nat) : Int) ≤ 3) = false := by decide
      have hv' := unhide hv
      subst hv'
      clear hv
      go_wp2
      go_ret2
      exact ⟨rfl, rfl⟩
set_option maxHeartbeats 2000000 in
theorem one_D2s1 (l : List UInt8) (hl : l.length ≤ 2305843009213693952) (a : Nat) (ha : a < l.length) (b0 : Nat) (hb : (l.getD a 0).toNat = b0) (hc : 241 ≤ b0 ∧ b0 ≤ 243) (w : World) (h1 : wi l (a + 1) 128 191 = false) :
    Calls Try.prog 61 #[.string (str l), .int .i64 (a : Int)] w fun e w' => e = .returned (.tuple #[.int .i64 ((2000000 + b0 : Nat) : Int), .int .i64 1]) ∧ w' = w := by
  have hix := str_index l a ha
  rw [hb] at hix
  have hb256 : b0 < 256 := by rw [← hb]; exact UInt8.toNat_lt _
  have d1 : decide ((b0 : Int) < 128) = false := by simp; omega
  have d2 : decide ((194 : Int) ≤ (b0 : Int)) = true := by simp; omega
  have d3 : decide ((b0 : Int) ≤ 223) = false := by simp; omega
  have d4 : decide ((224 : Int) ≤ (b0 : Int)) = true := by simp; omega
  have d5 : decide ((b0 : Int) ≤ 239) = false := by simp; omega
  have d8 : decide ((240 : Int) ≤ (b0 : Int)) = true := by simp; omega
  have d9 : decide ((b0 : Int) ≤ 244) = true := by simp; omega
  have d10 : ((b0 : Int) == 240) = false := by simp; omega
  have d11 : ((b0 : Int) == 244) = false := by simp; omega
  have c1 : Hid (∀ w, Calls Try.prog 65 #[.string (str l), .int .i64 ((a : Int) + 1), .int .u8 128, .int .u8 191] w fun e w' => e = .returned (.bool false) ∧ w' = w) := fun w => by
    have := within_calls l (by omega) (a + 1) 128 191 w
    rw [h1] at this; exact this
  have hcm : ((2000000 + b0 : Nat) : Int) = (b0 : Int) + 2000000 := by omega
  rw [hcm]
  clear hc hb
  go_enter Try.func61, Try.ntmps61
  go_wp2_with fail
  refine (unhide c1 _).mono ?_
  rintro e w' ⟨rfl, rfl⟩
  go_wp2
  go_ret2
  exact ⟨rfl, rfl⟩
set_option maxHeartbeats 2000000 in
theorem one_D2s2 (l : List UInt8) (hl : l.length ≤ 2305843009213693952) (a : Nat) (ha : a < l.length) (b0 : Nat) (hb : (l.getD a 0).toNat = b0) (hc : 241 ≤ b0 ∧ b0 ≤ 243) (w : World) (h1 : wi l (a + 1) 128 191 = true) (h2 : wi l (a + 2) 128 191 = false) :
    Calls Try.prog 61 #[.string (str l), .int .i64 (a : Int)] w fun e w' => e = .returned (.tuple #[.int .i64 ((2000000 + b0 : Nat) : Int), .int .i64 1]) ∧ w' = w := by
  have hix := str_index l a ha
  rw [hb] at hix
  have hb256 : b0 < 256 := by rw [← hb]; exact UInt8.toNat_lt _
  have d1 : decide ((b0 : Int) < 128) = false := by simp; omega
  have d2 : decide ((194 : Int) ≤ (b0 : Int)) = true := by simp; omega
  have d3 : decide ((b0 : Int) ≤ 223) = false := by simp; omega
  have d4 : decide ((224 : Int) ≤ (b0 : Int)) = true := by simp; omega
  have d5 : decide ((b0 : Int) ≤ 239) = false := by simp; omega
  have d8 : decide ((240 : Int) ≤ (b0 : Int)) = true := by simp; omega
  have d9 : decide ((b0 : Int) ≤ 244) = true := by simp; omega
  have d10 : ((b0 : Int) == 240) = false := by simp; omega
  have d11 : ((b0 : Int) == 244) = false := by simp; omega
  have c1 : Hid (∀ w, Calls Try.prog 65 #[.string (str l), .int .i64 ((a : Int) + 1), .int .u8 128, .int .u8 191] w fun e w' => e = .returned (.bool true) ∧ w' = w) := fun w => by
    have := within_calls l (by omega) (a + 1) 128 191 w
    rw [h1] at this; exact this
  have c2 : Hid (∀ w, Calls Try.prog 65 #[.string (str l), .int .i64 ((a : Int) + 2), .int .u8 128, .int .u8 191] w fun e w' => e = .returned (.bool false) ∧ w' = w) := fun w => by
    have := within_calls l (by omega) (a + 2) 128 191 w
    rw [h2] at this; exact this
  have hcm : ((2000000 + b0 : Nat) : Int) = (b0 : Int) + 2000000 := by omega
  rw [hcm]
  clear hc hb
  go_enter Try.func61, Try.ntmps61
  go_wp2_with fail
  refine (unhide c1 _).mono ?_
  rintro e w' ⟨rfl, rfl⟩
  go_wp2_with fail
  refine (unhide c2 _).mono ?_
  rintro e w' ⟨rfl, rfl⟩
  go_wp2
  go_ret2
  exact ⟨rfl, rfl⟩
set_option maxHeartbeats 2000000 in
theorem one_D2s3 (l : List UInt8) (hl : l.length ≤ 2305843009213693952) (a : Nat) (ha : a < l.length) (b0 : Nat) (hb : (l.getD a 0).toNat = b0) (hc : 241 ≤ b0 ∧ b0 ≤ 243) (w : World) (h1 : wi l (a + 1) 128 191 = true) (h2 : wi l (a + 2) 128 191 = true) (h3 : wi l (a + 3) 128 191 = false) :
    Calls Try.prog 61 #[.string (str l), .int .i64 (a : Int)] w fun e w' => e = .returned (.tuple #[.int .i64 ((2000000 + b0 : Nat) : Int), .int .i64 1]) ∧ w' = w := by
  have hix := str_index l a ha
  rw [hb] at hix
  have hb256 : b0 < 256 := by rw [← hb]; exact UInt8.toNat_lt _
  have d1 : decide ((b0 : Int) < 128) = false := by simp; omega
  have d2 : decide ((194 : Int) ≤ (b0 : Int)) = true := by simp; omega
  have d3 : decide ((b0 : Int) ≤ 223) = false := by simp; omega
  have d4 : decide ((224 : Int) ≤ (b0 : Int)) = true := by simp; omega
  have d5 : decide ((b0 : Int) ≤ 239) = false := by simp; omega
  have d8 : decide ((240 : Int) ≤ (b0 : Int)) = true := by simp; omega
  have d9 : decide ((b0 : Int) ≤ 244) = true := by simp; omega
  have d10 : ((b0 : Int) == 240) = false := by simp; omega
  have d11 : ((b0 : Int) == 244) = false := by simp; omega
  have c1 : Hid (∀ w, Calls Try.prog 65 #[.string (str l), .int .i64 ((a : Int) + 1), .int .u8 128, .int .u8 191] w fun e w' => e = .returned (.bool true) ∧ w' = w) := fun w => by
    have := within_calls l (by omega) (a + 1) 128 191 w
    rw [h1] at this; exact this
  have c2 : Hid (∀ w, Calls Try.prog 65 #[.string (str l), .int .i64 ((a : Int) + 2), .int .u8 128, .int .u8 191] w fun e w' => e = .returned (.bool true) ∧ w' = w) := fun w => by
    have := within_calls l (by omega) (a + 2) 128 191 w
    rw [h2] at this; exact this
  have c3 : Hid (∀ w, Calls Try.prog 65 #[.string (str l), .int .i64 ((a : Int) + 3), .int .u8 128, .int .u8 191] w fun e w' => e = .returned (.bool false) ∧ w' = w) := fun w => by
    have := within_calls l (by omega) (a + 3) 128 191 w
    rw [h3] at this; exact this
  have hcm : ((2000000 + b0 : Nat) : Int) = (b0 : Int) + 2000000 := by omega
  rw [hcm]
  clear hc hb
  go_enter Try.func61, Try.ntmps61
  go_wp2_with fail
  refine (unhide c1 _).mono ?_
  rintro e w' ⟨rfl, rfl⟩
  go_wp2_with fail
  refine (unhide c2 _).mono ?_
  rintro e w' ⟨rfl, rfl⟩
  go_wp2_with fail
  refine (unhide c3 _).mono ?_
  rintro e w' ⟨rfl, rfl⟩
  go_wp2
  go_ret2
  exact ⟨rfl, rfl⟩
set_option maxHeartbeats 2000000 in
theorem one_D2r (l : List UInt8) (hl : l.length ≤ 2305843009213693952) (a : Nat) (ha : a < l.length) (b0 : Nat) (hb : (l.getD a 0).toNat = b0) (hc : 241 ≤ b0 ∧ b0 ≤ 243) (w : World) (h1 : wi l (a + 1) 128 191 = true) (h2 : wi l (a + 2) 128 191 = true) (h3 : wi l (a + 3) 128 191 = true) :
    Calls Try.prog 61 #[.string (str l), .int .i64 (a : Int)] w fun e w' => e = .returned (.tuple #[.int .i64 (vv (b0 % 8) l a 3 : Int), .int .i64 4]) ∧ w' = w := by
  have hix := str_index l a ha
  rw [hb] at hix
  have hb256 : b0 < 256 := by rw [← hb]; exact UInt8.toNat_lt _
  have d1 : decide ((b0 : Int) < 128) = false := by simp; omega
  have d2 : decide ((194 : Int) ≤ (b0 : Int)) = true := by simp; omega
  have d3 : decide ((b0 : Int) ≤ 223) = false := by simp; omega
  have d4 : decide ((224 : Int) ≤ (b0 : Int)) = true := by simp; omega
  have d5 : decide ((b0 : Int) ≤ 239) = false := by simp; omega
  have d8 : decide ((240 : Int) ≤ (b0 : Int)) = true := by simp; omega
  have d9 : decide ((b0 : Int) ≤ 244) = true := by simp; omega
  have d10 : ((b0 : Int) == 240) = false := by simp; omega
  have d11 : ((b0 : Int) == 244) = false := by simp; omega
  have c1 : Hid (∀ w, Calls Try.prog 65 #[.string (str l), .int .i64 ((a : Int) + 1), .int .u8 128, .int .u8 191] w fun e w' => e = .returned (.bool true) ∧ w' = w) := fun w => by
    have := within_calls l (by omega) (a + 1) 128 191 w
    rw [h1] at this; exact this
  have c2 : Hid (∀ w, Calls Try.prog 65 #[.string (str l), .int .i64 ((a : Int) + 2), .int .u8 128, .int .u8 191] w fun e w' => e = .returned (.bool true) ∧ w' = w) := fun w => by
    have := within_calls l (by omega) (a + 2) 128 191 w
    rw [h2] at this; exact this
  have c3 : Hid (∀ w, Calls Try.prog 65 #[.string (str l), .int .i64 ((a : Int) + 3), .int .u8 128, .int .u8 191] w fun e w' => e = .returned (.bool true) ∧ w' = w) := fun w => by
    have := within_calls l (by omega) (a + 3) 128 191 w
    rw [h3] at this; exact this
  have hlen : a + 3 < l.length := by
    have := h3
    unfold wi at this
    simp only [Bool.and_eq_true, decide_eq_true_eq] at this
    exact this.1
  have hvl := vv_lt (b0 % 8) (by omega) l a
  obtain ⟨c0, hc0, ec0⟩ : ∃ c0 : Nat, Hid (b0 % 8 = c0) ∧ (b0 : Int) % 8 = (c0 : Int) := ⟨_, rfl, by omega⟩
  have e32 : (b0 : Int) % 32 = ((b0 % 32 : Nat) : Int) := by omega
  rw [unhide hc0] at hvl ⊢
  have hv0 : vv c0 l a 0 = c0 := rfl
  have Hvl := hide hvl
  clear hvl e32 h1 h2 h3
  clear hc hb
  go_enter Try.func61, Try.ntmps61
  go_wp2_with fail
  refine (unhide c1 _).mono ?_
  rintro e w' ⟨rfl, rfl⟩
  go_wp2_with fail
  refine (unhide c2 _).mono ?_
  rintro e w' ⟨rfl, rfl⟩
  go_wp2_with fail
  refine (unhide c3 _).mono ?_
  rintro e w' ⟨rfl, rfl⟩
  go_wp2
  go_loopw [10, 11] (fun x i wr => ∃ (j v : Nat), j ≤ 3 ∧ x = .int .i64 (v : Int) ∧ i = .int .i64 ((j + 1 : Nat) : Int) ∧ Hid (v = vv c0 l a j) ∧ wr = w') (fun _ i _ => 3 + 1 - (intOf i).toNat)
  case atStart => exact ⟨0, c0, by omega, by rw [ec0], rfl, rfl, rfl⟩
  case round =>
    obtain ⟨j, v, hj, rfl, rfl, hv, rfl⟩ := hrel
    by_cases hlt : j < 3
    · have hd : decide (((j + 1 : Nat) : Int) ≤ 3) = true := by simp; omega
      have hix2 : ∀ w, (Instr.index 9 (.string (str l)) (.int .i64 ((a : Int) + ((j + 1 : Nat) : Int)))).run Try.prog w = .ok (.int .u8 ((l.getD (a + 1 + j) 0).toNat : Int)) w := fun w => by
        have := str_index l (a + 1 + j) (by omega) w
        rw [show ((a + 1 + j : Nat) : Int) = (a : Int) + ((j + 1 : Nat) : Int) by omega] at this
        exact this
      have hvb : v < 131072 := by
        rw [unhide hv]
        refine Nat.lt_of_lt_of_le (unhide Hvl j) ?_
        have : 64 ^ j ≤ 64 ^ 2 := Nat.pow_le_pow_right (by decide) (by omega)
        omega
      obtain ⟨bj, hbj⟩ : ∃ bj, Hid ((l.getD (a + 1 + j) 0).toNat = bj) := ⟨_, rfl⟩
      rw [unhide hbj] at hix2
      have hbjb : bj < 256 := by rw [← unhide hbj]; exact UInt8.toNat_lt _
      generalize hjj : j + 1 = jj at *
      have Hjj := hide hjj
      have hjb : jj ≤ 3 := by omega
      clear hjj
      go_wp2
      go_roundw
      case rel =>
        refine ⟨j + 1, v * 64 + bj % 64, by omega, ?_, ?_, ?_, trivial⟩
        · congr 1 <;> omega
        · have hh := unhide Hjj
          rw [show ((j + 1 + 1 : Nat) : Int) = (jj : Int) + 1 by omega]
        · show _ = _
          rw [vv, ← unhide hv, unhide hbj]
      case measure => have := unhide Hjj; simp [intOf]; omega
    · obtain rfl : j = 3 := by omega
      have hd : decide (((3 + 1 : Nat) : Int) ≤ 3) = false := by decide
      have hv' := unhide hv
      subst hv'
      clear hv
      go_wp2
      go_ret2
      exact ⟨rfl, rfl⟩
end Go.Proofs.Ytlanplknendmaaa
