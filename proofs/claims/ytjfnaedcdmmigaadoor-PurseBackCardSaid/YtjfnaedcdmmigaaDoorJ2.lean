/-
  WHAT THE DOCUMENT'S OWN DECODER OF LAYER 2 RETURNS: One.
-/
/-
  WHAT THE DOCUMENT'S OWN DECODER OF LAYER 2 RETURNS: the head of the text as runes and strays.
-/
/-
  WHAT THE DOCUMENT'S OWN Numbers OF LAYER 2 RETURNS: a new list of what the runes and strays count as.
-/
/-
  WHAT THE DOCUMENT'S OWN Numbers, Count, Right, Says OF LAYER 2 RETURN.
-/
import Derived.Test.YtjfnaedcdmmigaaDoorJ1
import Derived.Lib.DecodeNEq
import Derived.Laws.AppendOwn
import Derived.Laws.OwnMore
namespace Go.Proofs.YtjfnaedcdmmigaaDoor
open Go.RowKit
set_option linter.unusedSimpArgs false
set_option linter.unusedVariables false

theorem getD_drop' (l : List UInt8) (a k : Nat) : (l.drop a).getD k 0 = l.getD (a + k) 0 := by
  simp [List.getD_eq_getElem?_getD, List.getElem?_drop]
/-- A rune's number, so many bytes behind its first one read. -/
def vv (c : Nat) (l : List UInt8) (a : Nat) : Nat → Nat
  | 0 => c
  | j + 1 => vv c l a j * 64 + (l.getD (a + 1 + j) 0).toNat % 64
theorem vv_lt (c : Nat) (hc : c < 32) (l : List UInt8) (a : Nat) : ∀ j, vv c l a j < 32 * 64 ^ j
  | 0 => by simpa [vv] using hc
  | j + 1 => by
    have := vv_lt c hc l a j
    rw [vv, Nat.pow_succ]; omega
set_option maxHeartbeats 2000000 in
theorem one_A (l : List UInt8) (hl : l.length ≤ 2305843009213693952) (a : Nat) (ha : a < l.length) (b0 : Nat) (hb : (l.getD a 0).toNat = b0) (hc : b0 < 128) (w : World) :
    Calls Tryd.prog 117 #[.string (str l), .int .i64 (a : Int)] w fun e w' => e = .returned (.tuple #[.int .i64 (b0 : Int), .int .i64 1]) ∧ w' = w := by
  have hix := str_index l a ha
  rw [hb] at hix
  have hb256 : b0 < 256 := by rw [← hb]; exact UInt8.toNat_lt _
  have d1 : decide ((b0 : Int) < 128) = true := by simp; omega
  clear hc hb
  go_enter Tryd.func117, Tryd.ntmps117
  go_wp2
  go_ret2
  exact ⟨rfl, rfl⟩
set_option maxHeartbeats 2000000 in
theorem one_E1 (l : List UInt8) (hl : l.length ≤ 2305843009213693952) (a : Nat) (ha : a < l.length) (b0 : Nat) (hb : (l.getD a 0).toNat = b0) (hc : 128 ≤ b0 ∧ b0 ≤ 193) (w : World) :
    Calls Tryd.prog 117 #[.string (str l), .int .i64 (a : Int)] w fun e w' => e = .returned (.tuple #[.int .i64 ((2000000 + b0 : Nat) : Int), .int .i64 1]) ∧ w' = w := by
  have hix := str_index l a ha
  rw [hb] at hix
  have hb256 : b0 < 256 := by rw [← hb]; exact UInt8.toNat_lt _
  have d1 : decide ((b0 : Int) < 128) = false := by simp; omega
  have d2 : decide ((194 : Int) ≤ (b0 : Int)) = false := by simp; omega
  have d4 : decide ((224 : Int) ≤ (b0 : Int)) = false := by simp; omega
  have d8 : decide ((240 : Int) ≤ (b0 : Int)) = false := by simp; omega
  have hcm : ((2000000 + b0 : Nat) : Int) = (b0 : Int) + 2000000 := by omega
  rw [hcm]
  clear hc hb
  go_enter Tryd.func117, Tryd.ntmps117
  go_wp2
  go_ret2
  exact ⟨rfl, rfl⟩
set_option maxHeartbeats 2000000 in
theorem one_E2 (l : List UInt8) (hl : l.length ≤ 2305843009213693952) (a : Nat) (ha : a < l.length) (b0 : Nat) (hb : (l.getD a 0).toNat = b0) (hc : 245 ≤ b0) (w : World) :
    Calls Tryd.prog 117 #[.string (str l), .int .i64 (a : Int)] w fun e w' => e = .returned (.tuple #[.int .i64 ((2000000 + b0 : Nat) : Int), .int .i64 1]) ∧ w' = w := by
  have hix := str_index l a ha
  rw [hb] at hix
  have hb256 : b0 < 256 := by rw [← hb]; exact UInt8.toNat_lt _
  have d1 : decide ((b0 : Int) < 128) = false := by simp; omega
  have d2 : decide ((194 : Int) ≤ (b0 : Int)) = true := by simp; omega
  have d3 : decide ((b0 : Int) ≤ 223) = false := by simp; omega
  have d4 : decide ((224 : Int) ≤ (b0 : Int)) = true := by simp; omega
  have d5 : decide ((b0 : Int) ≤ 239) = false := by simp; omega
  have d8 : decide ((240 : Int) ≤ (b0 : Int)) = true := by simp; omega
  have d9 : decide ((b0 : Int) ≤ 244) = false := by simp; omega
  have hcm : ((2000000 + b0 : Nat) : Int) = (b0 : Int) + 2000000 := by omega
  rw [hcm]
  clear hc hb
  go_enter Tryd.func117, Tryd.ntmps117
  go_wp2
  go_ret2
  exact ⟨rfl, rfl⟩
set_option maxHeartbeats 2000000 in
theorem one_Bs1 (l : List UInt8) (hl : l.length ≤ 2305843009213693952) (a : Nat) (ha : a < l.length) (b0 : Nat) (hb : (l.getD a 0).toNat = b0) (hc : 194 ≤ b0 ∧ b0 ≤ 223) (w : World) (h1 : wi l (a + 1) 128 191 = false) :
    Calls Tryd.prog 117 #[.string (str l), .int .i64 (a : Int)] w fun e w' => e = .returned (.tuple #[.int .i64 ((2000000 + b0 : Nat) : Int), .int .i64 1]) ∧ w' = w := by
  have hix := str_index l a ha
  rw [hb] at hix
  have hb256 : b0 < 256 := by rw [← hb]; exact UInt8.toNat_lt _
  have d1 : decide ((b0 : Int) < 128) = false := by simp; omega
  have d2 : decide ((194 : Int) ≤ (b0 : Int)) = true := by simp; omega
  have d3 : decide ((b0 : Int) ≤ 223) = true := by simp; omega
  have c1 : Hid (∀ w, Calls Tryd.prog 125 #[.string (str l), .int .i64 ((a : Int) + 1), .int .u8 128, .int .u8 191] w fun e w' => e = .returned (.bool false) ∧ w' = w) := fun w => by
    have := within_calls l (by omega) (a + 1) 128 191 w
    rw [h1] at this; exact this
  have hcm : ((2000000 + b0 : Nat) : Int) = (b0 : Int) + 2000000 := by omega
  rw [hcm]
  clear hc hb
  go_enter Tryd.func117, Tryd.ntmps117
  go_wp2_with fail
  refine (unhide c1 _).mono ?_
  rintro e w' ⟨rfl, rfl⟩
  go_wp2
  go_ret2
  exact ⟨rfl, rfl⟩
set_option maxHeartbeats 2000000 in
theorem one_Br (l : List UInt8) (hl : l.length ≤ 2305843009213693952) (a : Nat) (ha : a < l.length) (b0 : Nat) (hb : (l.getD a 0).toNat = b0) (hc : 194 ≤ b0 ∧ b0 ≤ 223) (w : World) (h1 : wi l (a + 1) 128 191 = true) :
    Calls Tryd.prog 117 #[.string (str l), .int .i64 (a : Int)] w fun e w' => e = .returned (.tuple #[.int .i64 (vv (b0 % 32) l a 1 : Int), .int .i64 2]) ∧ w' = w := by
  have hix := str_index l a ha
  rw [hb] at hix
  have hb256 : b0 < 256 := by rw [← hb]; exact UInt8.toNat_lt _
  have d1 : decide ((b0 : Int) < 128) = false := by simp; omega
  have d2 : decide ((194 : Int) ≤ (b0 : Int)) = true := by simp; omega
  have d3 : decide ((b0 : Int) ≤ 223) = true := by simp; omega
  have c1 : Hid (∀ w, Calls Tryd.prog 125 #[.string (str l), .int .i64 ((a : Int) + 1), .int .u8 128, .int .u8 191] w fun e w' => e = .returned (.bool true) ∧ w' = w) := fun w => by
    have := within_calls l (by omega) (a + 1) 128 191 w
    rw [h1] at this; exact this
  have hlen : a + 1 < l.length := by
    have := h1
    unfold wi at this
    simp only [Bool.and_eq_true, decide_eq_true_eq] at this
    exact this.1
  have hvl := vv_lt (b0 % 32) (by omega) l a
  obtain ⟨c0, hc0, ec0⟩ : ∃ c0 : Nat, Hid (b0 % 32 = c0) ∧ (b0 : Int) % 32 = (c0 : Int) := ⟨_, rfl, by omega⟩
  have e32 : (b0 : Int) % 32 = ((b0 % 32 : Nat) : Int) := by omega
  rw [unhide hc0] at hvl ⊢
  have hv0 : vv c0 l a 0 = c0 := rfl
  have Hvl := hide hvl
  clear hvl e32 h1
  clear hc hb
  go_enter Tryd.func117, Tryd.ntmps117
  go_wp2_with fail
  refine (unhide c1 _).mono ?_
  rintro e w' ⟨rfl, rfl⟩
  go_wp2
  go_loopw [10, 11] (fun x i wr => ∃ (j v : Nat), j ≤ 1 ∧ x = .int .i64 (v : Int) ∧ i = .int .i64 ((j + 1 : Nat) : Int) ∧ Hid (v = vv c0 l a j) ∧ wr = w') (fun _ i _ => 1 + 1 - (intOf i).toNat)
  case atStart => exact ⟨0, c0, by omega, by rw [ec0], rfl, rfl, rfl⟩
  case round =>
    obtain ⟨j, v, hj, rfl, rfl, hv, rfl⟩ := hrel
    by_cases hlt : j < 1
    · have hd : decide (((j + 1 : Nat) : Int) ≤ 1) = true := by simp; omega
      have hix2 : ∀ w, (Instr.index 9 (.string (str l)) (.int .i64 ((a : Int) + ((j + 1 : Nat) : Int)))).run Tryd.prog w = .ok (.int .u8 ((l.getD (a + 1 + j) 0).toNat : Int)) w := fun w => by
        have := str_index l (a + 1 + j) (by omega) w
        rw [show ((a + 1 + j : Nat) : Int) = (a : Int) + ((j + 1 : Nat) : Int) by omega] at this
        exact this
      have hvb : v < 131072 := by
        rw [unhide hv]
        refine Nat.lt_of_lt_of_le (unhide Hvl j) ?_
        have : 64 ^ j ≤ 64 ^ 2 := Nat.pow_le_pow_right (by decide) (by omega)
        omega
      obtain ⟨bj, hbj⟩ : ∃ bj, Hid ((l.getD (a + 1 + j) 0).toNat = bj) := ⟨_, rfl⟩
      rw [unhide hbj] at hix2
      have hbjb : bj < 256 := by rw [← unhide hbj]; exact UInt8.toNat_lt _
      generalize hjj : j + 1 = jj at *
      have Hjj := hide hjj
      have hjb : jj ≤ 3 := by omega
      clear hjj
      go_wp2
      go_roundw
      case rel =>
        refine ⟨j + 1, v * 64 + bj % 64, by omega, ?_, ?_, ?_, trivial⟩
        · congr 1 <;> omega
        · have hh := unhide Hjj
          rw [show ((j + 1 + 1 : Nat) : Int) = (jj : Int) + 1 by omega]
        · show _ = _
          rw [vv, ← unhide hv, unhide hbj]
      case measure => have := unhide Hjj; simp [intOf]; omega
    · obtain rfl : j = 1 := by omega
      have hd : decide (((1 + 1 : Nat) : Int) ≤ 1) = false := by decide
      have hv' := unhide hv
      subst hv'
      clear hv
      go_wp2
      go_ret2
      exact ⟨rfl, rfl⟩
set_option maxHeartbeats 2000000 in
theorem one_C0s1 (l : List UInt8) (hl : l.length ≤ 2305843009213693952) (a : Nat) (ha : a < l.length) (b0 : Nat) (hb : (l.getD a 0).toNat = b0) (hc : b0 = 224) (w : World) (h1 : wi l (a + 1) 160 191 = false) :
    Calls Tryd.prog 117 #[.string (str l), .int .i64 (a : Int)] w fun e w' => e = .returned (.tuple #[.int .i64 ((2000000 + b0 : Nat) : Int), .int .i64 1]) ∧ w' = w := by
  have hix := str_index l a ha
  rw [hb] at hix
  have hb256 : b0 < 256 := by rw [← hb]; exact UInt8.toNat_lt _
  have d1 : decide ((b0 : Int) < 128) = false := by simp; omega
  have d2 : decide ((194 : Int) ≤ (b0 : Int)) = true := by simp; omega
  have d3 : decide ((b0 : Int) ≤ 223) = false := by simp; omega
  have d4 : decide ((224 : Int) ≤ (b0 : Int)) = true := by simp; omega
  have d5 : decide ((b0 : Int) ≤ 239) = true := by simp; omega
  have d6 : ((b0 : Int) == 224) = true := by simp; omega
  have d7 : ((b0 : Int) == 237) = false := by simp; omega
  have c1 : Hid (∀ w, Calls Tryd.prog 125 #[.string (str l), .int .i64 ((a : Int) + 1), .int .u8 160, .int .u8 191] w fun e w' => e = .returned (.bool false) ∧ w' = w) := fun w => by
    have := within_calls l (by omega) (a + 1) 160 191 w
    rw [h1] at this; exact this
  have hcm : ((2000000 + b0 : Nat) : Int) = (b0 : Int) + 2000000 := by omega
  rw [hcm]
  clear hc hb
  go_enter Tryd.func117, Tryd.ntmps117
  go_wp2_with fail
  refine (unhide c1 _).mono ?_
  rintro e w' ⟨rfl, rfl⟩
  go_wp2
  go_ret2
  exact ⟨rfl, rfl⟩
set_option maxHeartbeats 2000000 in
theorem one_C0s2 (l : List UInt8) (hl : l.length ≤ 2305843009213693952) (a : Nat) (ha : a < l.length) (b0 : Nat) (hb : (l.getD a 0).toNat = b0) (hc : b0 = 224) (w : World) (h1 : wi l (a + 1) 160 191 = true) (h2 : wi l (a + 2) 128 191 = false) :
    Calls Tryd.prog 117 #[.string (str l), .int .i64 (a : Int)] w fun e w' => e = .returned (.tuple #[.int .i64 ((2000000 + b0 : Nat) : Int), .int .i64 1]) ∧ w' = w := by
  have hix := str_index l a ha
  rw [hb] at hix
  have hb256 : b0 < 256 := by rw [← hb]; exact UInt8.toNat_lt _
  have d1 : decide ((b0 : Int) < 128) = false := by simp; omega
  have d2 : decide ((194 : Int) ≤ (b0 : Int)) = true := by simp; omega
  have d3 : decide ((b0 : Int) ≤ 223) = false := by simp; omega
  have d4 : decide ((224 : Int) ≤ (b0 : Int)) = true := by simp; omega
  have d5 : decide ((b0 : Int) ≤ 239) = true := by simp; omega
  have d6 : ((b0 : Int) == 224) = true := by simp; omega
  have d7 : ((b0 : Int) == 237) = false := by simp; omega
  have c1 : Hid (∀ w, Calls Tryd.prog 125 #[.string (str l), .int .i64 ((a : Int) + 1), .int .u8 160, .int .u8 191] w fun e w' => e = .returned (.bool true) ∧ w' = w) := fun w => by
    have := within_calls l (by omega) (a + 1) 160 191 w
    rw [h1] at this; exact this
  have c2 : Hid (∀ w, Calls Tryd.prog 125 #[.string (str l), .int .i64 ((a : Int) + 2), .int .u8 128, .int .u8 191] w fun e w' => e = .returned (.bool false) ∧ w' = w) := fun w => by
    have := within_calls l (by omega) (a + 2) 128 191 w
    rw [h2] at this; exact this
  have hcm : ((2000000 + b0 : Nat) : Int) = (b0 : Int) + 2000000 := by omega
  rw [hcm]
  clear hc hb
  go_enter Tryd.func117, Tryd.ntmps117
  go_wp2_with fail
  refine (unhide c1 _).mono ?_
  rintro e w' ⟨rfl, rfl⟩
  go_wp2_with fail
  refine (unhide c2 _).mono ?_
  rintro e w' ⟨rfl, rfl⟩
  go_wp2
  go_ret2
  exact ⟨rfl, rfl⟩
set_option maxHeartbeats 2000000 in
theorem one_C0r (l : List UInt8) (hl : l.length ≤ 2305843009213693952) (a : Nat) (ha : a < l.length) (b0 : Nat) (hb : (l.getD a 0).toNat = b0) (hc : b0 = 224) (w : World) (h1 : wi l (a + 1) 160 191 = true) (h2 : wi l (a + 2) 128 191 = true) :
    Calls Tryd.prog 117 #[.string (str l), .int .i64 (a : Int)] w fun e w' => e = .returned (.tuple #[.int .i64 (vv (b0 % 16) l a 2 : Int), .int .i64 3]) ∧ w' = w := by
  have hix := str_index l a ha
  rw [hb] at hix
  have hb256 : b0 < 256 := by rw [← hb]; exact UInt8.toNat_lt _
  have d1 : decide ((b0 : Int) < 128) = false := by simp; omega
  have d2 : decide ((194 : Int) ≤ (b0 : Int)) = true := by simp; omega
  have d3 : decide ((b0 : Int) ≤ 223) = false := by simp; omega
  have d4 : decide ((224 : Int) ≤ (b0 : Int)) = true := by simp; omega
  have d5 : decide ((b0 : Int) ≤ 239) = true := by simp; omega
  have d6 : ((b0 : Int) == 224) = true := by simp; omega
  have d7 : ((b0 : Int) == 237) = false := by simp; omega
  have c1 : Hid (∀ w, Calls Tryd.prog 125 #[.string (str l), .int .i64 ((a : Int) + 1), .int .u8 160, .int .u8 191] w fun e w' => e = .returned (.bool true) ∧ w' = w) := fun w => by
    have := within_calls l (by omega) (a + 1) 160 191 w
    rw [h1] at this; exact this
  have c2 : Hid (∀ w, Calls Tryd.prog 125 #[.string (str l), .int .i64 ((a : Int) + 2), .int .u8 128, .int .u8 191] w fun e w' => e = .returned (.bool true) ∧ w' = w) := fun w => by
    have := within_calls l (by omega) (a + 2) 128 191 w
    rw [h2] at this; exact this
  have hlen : a + 2 < l.length := by
    have := h2
    unfold wi at this
    simp only [Bool.and_eq_true, decide_eq_true_eq] at this
    exact this.1
  have hvl := vv_lt (b0 % 16) (by omega) l a
  obtain ⟨c0, hc0, ec0⟩ : ∃ c0 : Nat, Hid (b0 % 16 = c0) ∧ (b0 : Int) % 16 = (c0 : Int) := ⟨_, rfl, by omega⟩
  have e32 : (b0 : Int) % 32 = ((b0 % 32 : Nat) : Int) := by omega
  rw [unhide hc0] at hvl ⊢
  have hv0 : vv c0 l a 0 = c0 := rfl
  have Hvl := hide hvl
  clear hvl e32 h1 h2
  clear hc hb
  go_enter Tryd.func117, Tryd.ntmps117
  go_wp2_with fail
  refine (unhide c1 _).mono ?_
  rintro e w' ⟨rfl, rfl⟩
  go_wp2_with fail
  refine (unhide c2 _).mono ?_
  rintro e w' ⟨rfl, rfl⟩
  go_wp2
  go_loopw [10, 11] (fun x i wr => ∃ (j v : Nat), j ≤ 2 ∧ x = .int .i64 (v : Int) ∧ i = .int .i64 ((j + 1 : Nat) : Int) ∧ Hid (v = vv c0 l a j) ∧ wr = w') (fun _ i _ => 2 + 1 - (intOf i).toNat)
  case atStart => exact ⟨0, c0, by omega, by rw [ec0], rfl, rfl, rfl⟩
  case round =>
    obtain ⟨j, v, hj, rfl, rfl, hv, rfl⟩ := hrel
    by_cases hlt : j < 2
    · have hd : decide (((j + 1 : Nat) : Int) ≤ 2) = true := by simp; omega
      have hix2 : ∀ w, (Instr.index 9 (.string (str l)) (.int .i64 ((a : Int) + ((j + 1 : Nat) : Int)))).run Tryd.prog w = .ok (.int .u8 ((l.getD (a + 1 + j) 0).toNat : Int)) w := fun w => by
        have := str_index l (a + 1 + j) (by omega) w
        rw [show ((a + 1 + j : Nat) : Int) = (a : Int) + ((j + 1 : Nat) : Int) by omega] at this
        exact this
      have hvb : v < 131072 := by
        rw [unhide hv]
        refine Nat.lt_of_lt_of_le (unhide Hvl j) ?_
        have : 64 ^ j ≤ 64 ^ 2 := Nat.pow_le_pow_right (by decide) (by omega)
        omega
      obtain ⟨bj, hbj⟩ : ∃ bj, Hid ((l.getD (a + 1 + j) 0).toNat = bj) := ⟨_, rfl⟩
      rw [unhide hbj] at hix2
      have hbjb : bj < 256 := by rw [← unhide hbj]; exact UInt8.toNat_lt _
      generalize hjj : j + 1 = jj at *
      have Hjj := hide hjj
      have hjb : jj ≤ 3 := by omega
      clear hjj
      go_wp2
      go_roundw
      case rel =>
        refine ⟨j + 1, v * 64 + bj % 64, by omega, ?_, ?_, ?_, trivial⟩
        · congr 1 <;> omega
        · have hh := unhide Hjj
          rw [show ((j + 1 + 1 : Nat) : Int) = (jj : Int) + 1 by omega]
        · show _ = _
          rw [vv, ← unhide hv, unhide hbj]
      case measure => have := unhide Hjj; simp [intOf]; omega
    · obtain rfl : j = 2 := by omega
      have hd : decide (((2 + 1 : Nat) : Int) ≤ 2) = false := by decide
      have hv' := unhide hv
      subst hv'
      clear hv
      go_wp2
      go_ret2
      exact ⟨rfl, rfl⟩
set_option maxHeartbeats 2000000 in
theorem one_C1s1 (l : List UInt8) (hl : l.length ≤ 2305843009213693952) (a : Nat) (ha : a < l.length) (b0 : Nat) (hb : (l.getD a 0).toNat = b0) (hc : b0 = 237) (w : World) (h1 : wi l (a + 1) 128 159 = false) :
    Calls Tryd.prog 117 #[.string (str l), .int .i64 (a : Int)] w fun e w' => e = .returned (.tuple #[.int .i64 ((2000000 + b0 : Nat) : Int), .int .i64 1]) ∧ w' = w := by
  have hix := str_index l a ha
  rw [hb] at hix
  have hb256 : b0 < 256 := by rw [← hb]; exact UInt8.toNat_lt _
  have d1 : decide ((b0 : Int) < 128) = false := by simp; omega
  have d2 : decide ((194 : Int) ≤ (b0 : Int)) = true := by simp; omega
  have d3 : decide ((b0 : Int) ≤ 223) = false := by simp; omega
  have d4 : decide ((224 : Int) ≤ (b0 : Int)) = true := by simp; omega
  have d5 : decide ((b0 : Int) ≤ 239) = true := by simp; omega
  have d6 : ((b0 : Int) == 224) = false := by simp; omega
  have d7 : ((b0 : Int) == 237) = true := by simp; omega
  have c1 : Hid (∀ w, Calls Tryd.prog 125 #[.string (str l), .int .i64 ((a : Int) + 1), .int .u8 128, .int .u8 159] w fun e w' => e = .returned (.bool false) ∧ w' = w) := fun w => by
    have := within_calls l (by omega) (a + 1) 128 159 w
    rw [h1] at this; exact this
  have hcm : ((2000000 + b0 : Nat) : Int) = (b0 : Int) + 2000000 := by omega
  rw [hcm]
  clear hc hb
  go_enter Tryd.func117, Tryd.ntmps117
  go_wp2_with fail
  refine (unhide c1 _).mono ?_
  rintro e w' ⟨rfl, rfl⟩
  go_wp2
  go_ret2
  exact ⟨rfl, rfl⟩
set_option maxHeartbeats 2000000 in
theorem one_C1s2 (l : List UInt8) (hl : l.length ≤ 2305843009213693952) (a : Nat) (ha : a < l.length) (b0 : Nat) (hb : (l.getD a 0).toNat = b0) (hc : b0 = 237) (w : World) (h1 : wi l (a + 1) 128 159 = true) (h2 : wi l (a + 2) 128 191 = false) :
    Calls Tryd.prog 117 #[.string (str l), .int .i64 (a : Int)] w fun e w' => e = .returned (.tuple #[.int .i64 ((2000000 + b0 : Nat) : Int), .int .i64 1]) ∧ w' = w := by
  have hix := str_index l a ha
  rw [hb] at hix
  have hb256 : b0 < 256 := by rw [← hb]; exact UInt8.toNat_lt _
  have d1 : decide ((b0 : Int) < 128) = false := by simp; omega
  have d2 : decide ((194 : Int) ≤ (b0 : Int)) = true := by simp; omega
  have d3 : decide ((b0 : Int) ≤ 223) = false := by simp; omega
  have d4 : decide ((224 : Int) ≤ (b0 : Int)) = true := by simp; omega
  have d5 : decide ((b0 : Int) ≤ 239) = true := by simp; omega
  have d6 : ((b0 : Int) == 224) = false := by simp; omega
  have d7 : ((b0 : Int) == 237) = true := by simp; omega
  have c1 : Hid (∀ w, Calls Tryd.prog 125 #[.string (str l), .int .i64 ((a : Int) + 1), .int .u8 128, .int .u8 159] w fun e w' => e = .returned (.bool true) ∧ w' = w) := fun w => by
    have := within_calls l (by omega) (a + 1) 128 159 w
    rw [h1] at this; exact this
  have c2 : Hid (∀ w, Calls Tryd.prog 125 #[.string (str l), .int .i64 ((a : Int) + 2), .int .u8 128, .int .u8 191] w fun e w' => e = .returned (.bool false) ∧ w' = w) := fun w => by
    have := within_calls l (by omega) (a + 2) 128 191 w
    rw [h2] at this; exact this
  have hcm : ((2000000 + b0 : Nat) : Int) = (b0 : Int) + 2000000 := by omega
  rw [hcm]
  clear hc hb
  go_enter Tryd.func117, Tryd.ntmps117
  go_wp2_with fail
  refine (unhide c1 _).mono ?_
  rintro e w' ⟨rfl, rfl⟩
  go_wp2_with fail
  refine (unhide c2 _).mono ?_
  rintro e w' ⟨rfl, rfl⟩
  go_wp2
  go_ret2
  exact ⟨rfl, rfl⟩
set_option maxHeartbeats 2000000 in
theorem one_C1r (l : List UInt8) (hl : l.length ≤ 2305843009213693952) (a : Nat) (ha : a < l.length) (b0 : Nat) (hb : (l.getD a 0).toNat = b0) (hc : b0 = 237) (w : World) (h1 : wi l (a + 1) 128 159 = true) (h2 : wi l (a + 2) 128 191 = true) :
    Calls Tryd.prog 117 #[.string (str l), .int .i64 (a : Int)] w fun e w' => e = .returned (.tuple #[.int .i64 (vv (b0 % 16) l a 2 : Int), .int .i64 3]) ∧ w' = w := by
  have hix := str_index l a ha
  rw [hb] at hix
  have hb256 : b0 < 256 := by rw [← hb]; exact UInt8.toNat_lt _
  have d1 : decide ((b0 : Int) < 128) = false := by simp; omega
  have d2 : decide ((194 : Int) ≤ (b0 : Int)) = true := by simp; omega
  have d3 : decide ((b0 : Int) ≤ 223) = false := by simp; omega
  have d4 : decide ((224 : Int) ≤ (b0 : Int)) = true := by simp; omega
  have d5 : decide ((b0 : Int) ≤ 239) = true := by simp; omega
  have d6 : ((b0 : Int) == 224) = false := by simp; omega
  have d7 : ((b0 : Int) == 237) = true := by simp; omega
  have c1 : Hid (∀ w, Calls Tryd.prog 125 #[.string (str l), .int .i64 ((a : Int) + 1), .int .u8 128, .int .u8 159] w fun e w' => e = .returned (.bool true) ∧ w' = w) := fun w => by
    have := within_calls l (by omega) (a + 1) 128 159 w
    rw [h1] at this; exact this
  have c2 : Hid (∀ w, Calls Tryd.prog 125 #[.string (str l), .int .i64 ((a : Int) + 2), .int .u8 128, .int .u8 191] w fun e w' => e = .returned (.bool true) ∧ w' = w) := fun w => by
    have := within_calls l (by omega) (a + 2) 128 191 w
    rw [h2] at this; exact this
  have hlen : a + 2 < l.length := by
    have := h2
    unfold wi at this
    simp only [Bool.and_eq_true, decide_eq_true_eq] at this
    exact this.1
  have hvl := vv_lt (b0 % 16) (by omega) l a
  obtain ⟨c0, hc0, ec0⟩ : ∃ c0 : Nat, Hid (b0 % 16 = c0) ∧ (b0 : Int) % 16 = (c0 : Int) := ⟨_, rfl, by omega⟩
  have e32 : (b0 : Int) % 32 = ((b0 % 32 : Nat) : Int) := by omega
  rw [unhide hc0] at hvl ⊢
  have hv0 : vv c0 l a 0 = c0 := rfl
  have Hvl := hide hvl
  clear hvl e32 h1 h2
  clear hc hb
  go_enter Tryd.func117, Tryd.ntmps117
  go_wp2_with fail
  refine (unhide c1 _).mono ?_
  rintro e w' ⟨rfl, rfl⟩
  go_wp2_with fail
  refine (unhide c2 _).mono ?_
  rintro e w' ⟨rfl, rfl⟩
  go_wp2
  go_loopw [10, 11] (fun x i wr => ∃ (j v : Nat), j ≤ 2 ∧ x = .int .i64 (v : Int) ∧ i = .int .i64 ((j + 1 : Nat) : Int) ∧ Hid (v = vv c0 l a j) ∧ wr = w') (fun _ i _ => 2 + 1 - (intOf i).toNat)
  case atStart => exact ⟨0, c0, by omega, by rw [ec0], rfl, rfl, rfl⟩
  case round =>
    obtain ⟨j, v, hj, rfl, rfl, hv, rfl⟩ := hrel
    by_cases hlt : j < 2
    · have hd : decide (((j + 1 : Nat) : Int) ≤ 2) = true := by simp; omega
      have hix2 : ∀ w, (Instr.index 9 (.string (str l)) (.int .i64 ((a : Int) + ((j + 1 : Nat) : Int)))).run Tryd.prog w = .ok (.int .u8 ((l.getD (a + 1 + j) 0).toNat : Int)) w := fun w => by
        have := str_index l (a + 1 + j) (by omega) w
        rw [show ((a + 1 + j : Nat) : Int) = (a : Int) + ((j + 1 : Nat) : Int) by omega] at this
        exact this
      have hvb : v < 131072 := by
        rw [unhide hv]
        refine Nat.lt_of_lt_of_le (unhide Hvl j) ?_
        have : 64 ^ j ≤ 64 ^ 2 := Nat.pow_le_pow_right (by decide) (by omega)
        omega
      obtain ⟨bj, hbj⟩ : ∃ bj, Hid ((l.getD (a + 1 + j) 0).toNat = bj) := ⟨_, rfl⟩
      rw [unhide hbj] at hix2
      have hbjb : bj < 256 := by rw [← unhide hbj]; exact UInt8.toNat_lt _
      generalize hjj : j + 1 = jj at *
      have Hjj := hide hjj
      have hjb : jj ≤ 3 := by omega
      clear hjj
      go_wp2
      go_roundw
      case rel =>
        refine ⟨j + 1, v * 64 + bj % 64, by omega, ?_, ?_, ?_, trivial⟩
        · congr 1 <;> omega
        · have hh := unhide Hjj
          rw [show ((j + 1 + 1 : Nat) : Int) = (jj : Int) + 1 by omega]
        · show _ = _
          rw [vv, ← unhide hv, unhide hbj]
      case measure => have := unhide Hjj; simp [intOf]; omega
    · obtain rfl : j = 2 := by omega
      have hd : decide (((2 + 1 : Nat) : Int) ≤ 2) = false := by decide
      have hv' := unhide hv
      subst hv'
      clear hv
      go_wp2
      go_ret2
      exact ⟨rfl, rfl⟩
set_option maxHeartbeats 2000000 in
theorem one_C2s1 (l : List UInt8) (hl : l.length ≤ 2305843009213693952) (a : Nat) (ha : a < l.length) (b0 : Nat) (hb : (l.getD a 0).toNat = b0) (hc : (225 ≤ b0 ∧ b0 ≤ 236) ∨ (238 ≤ b0 ∧ b0 ≤ 239)) (w : World) (h1 : wi l (a + 1) 128 191 = false) :
    Calls Tryd.prog 117 #[.string (str l), .int .i64 (a : Int)] w fun e w' => e = .returned (.tuple #[.int .i64 ((2000000 + b0 : Nat) : Int), .int .i64 1]) ∧ w' = w := by
  have hix := str_index l a ha
  rw [hb] at hix
  have hb256 : b0 < 256 := by rw [← hb]; exact UInt8.toNat_lt _
  have d1 : decide ((b0 : Int) < 128) = false := by simp; omega
  have d2 : decide ((194 : Int) ≤ (b0 : Int)) = true := by simp; omega
  have d3 : decide ((b0 : Int) ≤ 223) = false := by simp; omega
  have d4 : decide ((224 : Int) ≤ (b0 : Int)) = true := by simp; omega
  have d5 : decide ((b0 : Int) ≤ 239) = true := by simp; omega
  have d6 : ((b0 : Int) == 224) = false := by simp; omega
  have d7 : ((b0 : Int) == 237) = false := by simp; omega
  have c1 : Hid (∀ w, Calls Tryd.prog 125 #[.string (str l), .int .i64 ((a : Int) + 1), .int .u8 128, .int .u8 191] w fun e w' => e = .returned (.bool false) ∧ w' = w) := fun w => by
    have := within_calls l (by omega) (a + 1) 128 191 w
    rw [h1] at this; exact this
  have hcm : ((2000000 + b0 : Nat) : Int) = (b0 : Int) + 2000000 := by omega
  rw [hcm]
  clear hc hb
  go_enter Tryd.func117, Tryd.ntmps117
  go_wp2_with fail
  refine (unhide c1 _).mono ?_
  rintro e w' ⟨rfl, rfl⟩
  go_wp2
  go_ret2
  exact ⟨rfl, rfl⟩
set_option maxHeartbeats 2000000 in
theorem one_C2s2 (l : List UInt8) (hl : l.length ≤ 2305843009213693952) (a : Nat) (ha : a < l.length) (b0 : Nat) (hb : (l.getD a 0).toNat = b0) (hc : (225 ≤ b0 ∧ b0 ≤ 236) ∨ (238 ≤ b0 ∧ b0 ≤ 239)) (w : World) (h1 : wi l (a + 1) 128 191 = true) (h2 : wi l (a + 2) 128 191 = false) :
    Calls Tryd.prog 117 #[.string (str l), .int .i64 (a : Int)] w fun e w' => e = .returned (.tuple #[.int .i64 ((2000000 + b0 : Nat) : Int), .int .i64 1]) ∧ w' = w := by
  have hix := str_index l a ha
  rw [hb] at hix
  have hb256 : b0 < 256 := by rw [← hb]; exact UInt8.toNat_lt _
  have d1 : decide ((b0 : Int) < 128) = false := by simp; omega
  have d2 : decide ((194 : Int) ≤ (b0 : Int)) = true := by simp; omega
  have d3 : decide ((b0 : Int) ≤ 223) = false := by simp; omega
  have d4 : decide ((224 : Int) ≤ (b0 : Int)) = true := by simp; omega
  have d5 : decide ((b0 : Int) ≤ 239) = true := by simp; omega
  have d6 : ((b0 : Int) == 224) = false := by simp; omega
  have d7 : ((b0 : Int) == 237) = false := by simp; omega
  have c1 : Hid (∀ w, Calls Tryd.prog 125 #[.string (str l), .int .i64 ((a : Int) + 1), .int .u8 128, .int .u8 191] w fun e w' => e = .returned (.bool true) ∧ w' = w) := fun w => by
    have := within_calls l (by omega) (a + 1) 128 191 w
    rw [h1] at this; exact this
  have c2 : Hid (∀ w, Calls Tryd.prog 125 #[.string (str l), .int .i64 ((a : Int) + 2), .int .u8 128, .int .u8 191] w fun e w' => e = .returned (.bool false) ∧ w' = w) := fun w => by
    have := within_calls l (by omega) (a + 2) 128 191 w
    rw [h2] at this; exact this
  have hcm : ((2000000 + b0 : Nat) : Int) = (b0 : Int) + 2000000 := by omega
  rw [hcm]
  clear hc hb
  go_enter Tryd.func117, Tryd.ntmps117
  go_wp2_with fail
  refine (unhide c1 _).mono ?_
  rintro e w' ⟨rfl, rfl⟩
  go_wp2_with fail
  refine (unhide c2 _).mono ?_
  rintro e w' ⟨rfl, rfl⟩
  go_wp2
  go_ret2
  exact ⟨rfl, rfl⟩
set_option maxHeartbeats 2000000 in
theorem one_C2r (l : List UInt8) (hl : l.length ≤ 2305843009213693952) (a : Nat) (ha : a < l.length) (b0 : Nat) (hb : (l.getD a 0).toNat = b0) (hc : (225 ≤ b0 ∧ b0 ≤ 236) ∨ (238 ≤ b0 ∧ b0 ≤ 239)) (w : World) (h1 : wi l (a + 1) 128 191 = true) (h2 : wi l (a + 2) 128 191 = true) :
    Calls Tryd.prog 117 #[.string (str l), .int .i64 (a : Int)] w fun e w' => e = .returned (.tuple #[.int .i64 (vv (b0 % 16) l a 2 : Int), .int .i64 3]) ∧ w' = w := by
  have hix := str_index l a ha
  rw [hb] at hix
  have hb256 : b0 < 256 := by rw [← hb]; exact UInt8.toNat_lt _
  have d1 : decide ((b0 : Int) < 128) = false := by simp; omega
  have d2 : decide ((194 : Int) ≤ (b0 : Int)) = true := by simp; omega
  have d3 : decide ((b0 : Int) ≤ 223) = false := by simp; omega
  have d4 : decide ((224 : Int) ≤ (b0 : Int)) = true := by simp; omega
  have d5 : decide ((b0 : Int) ≤ 239) = true := by simp; omega
  have d6 : ((b0 : Int) == 224) = false := by simp; omega
  have d7 : ((b0 : Int) == 237) = false := by simp; omega
  have c1 : Hid (∀ w, Calls Tryd.prog 125 #[.string (str l), .int .i64 ((a : Int) + 1), .int .u8 128, .int .u8 191] w fun e w' => e = .returned (.bool true) ∧ w' = w) := fun w => by
    have := within_calls l (by omega) (a + 1) 128 191 w
    rw [h1] at this; exact this
  have c2 : Hid (∀ w, Calls Tryd.prog 125 #[.string (str l), .int .i64 ((a : Int) + 2), .int .u8 128, .int .u8 191] w fun e w' => e = .returned (.bool true) ∧ w' = w) := fun w => by
    have := within_calls l (by omega) (a + 2) 128 191 w
    rw [h2] at this; exact this
  have hlen : a + 2 < l.length := by
    have := h2
    unfold wi at this
    simp only [Bool.and_eq_true, decide_eq_true_eq] at this
    exact this.1
  have hvl := vv_lt (b0 % 16) (by omega) l a
  obtain ⟨c0, hc0, ec0⟩ : ∃ c0 : Nat, Hid (b0 % 16 = c0) ∧ (b0 : Int) % 16 = (c0 : Int) := ⟨_, rfl, by omega⟩
  have e32 : (b0 : Int) % 32 = ((b0 % 32 : Nat) : Int) := by omega
  rw [unhide hc0] at hvl ⊢
  have hv0 : vv c0 l a 0 = c0 := rfl
  have Hvl := hide hvl
  clear hvl e32 h1 h2
  clear hc hb
  go_enter Tryd.func117, Tryd.ntmps117
  go_wp2_with fail
  refine (unhide c1 _).mono ?_
  rintro e w' ⟨rfl, rfl⟩
  go_wp2_with fail
  refine (unhide c2 _).mono ?_
  rintro e w' ⟨rfl, rfl⟩
  go_wp2
  go_loopw [10, 11] (fun x i wr => ∃ (j v : Nat), j ≤ 2 ∧ x = .int .i64 (v : Int) ∧ i = .int .i64 ((j + 1 : Nat) : Int) ∧ Hid (v = vv c0 l a j) ∧ wr = w') (fun _ i _ => 2 + 1 - (intOf i).toNat)
  case atStart => exact ⟨0, c0, by omega, by rw [ec0], rfl, rfl, rfl⟩
  case round =>
    obtain ⟨j, v, hj, rfl, rfl, hv, rfl⟩ := hrel
    by_cases hlt : j < 2
    · have hd : decide (((j + 1 : Nat) : Int) ≤ 2) = true := by simp; omega
      have hix2 : ∀ w, (Instr.index 9 (.string (str l)) (.int .i64 ((a : Int) + ((j + 1 : Nat) : Int)))).run Tryd.prog w = .ok (.int .u8 ((l.getD (a + 1 + j) 0).toNat : Int)) w := fun w => by
        have := str_index l (a + 1 + j) (by omega) w
        rw [show ((a + 1 + j : Nat) : Int) = (a : Int) + ((j + 1 : Nat) : Int) by omega] at this
        exact this
      have hvb : v < 131072 := by
        rw [unhide hv]
        refine Nat.lt_of_lt_of_le (unhide Hvl j) ?_
        have : 64 ^ j ≤ 64 ^ 2 := Nat.pow_le_pow_right (by decide) (by omega)
        omega
      obtain ⟨bj, hbj⟩ : ∃ bj, Hid ((l.getD (a + 1 + j) 0).toNat = bj) := ⟨_, rfl⟩
      rw [unhide hbj] at hix2
      have hbjb : bj < 256 := by rw [← unhide hbj]; exact UInt8.toNat_lt _
      generalize hjj : j + 1 = jj at *
      have Hjj := hide hjj
      have hjb : jj ≤ 3 := by omega
      clear hjj
      go_wp2
      go_roundw
      case rel =>
        refine ⟨j + 1, v * 64 + bj % 64, by omega, ?_, ?_, ?_, trivial⟩
        · congr 1 <;> omega
        · have hh := unhide Hjj
          rw [show ((j + 1 + 1 : Nat) : Int) = (jj : Int) + 1 by omega]
        · show _ = _
          rw [vv, ← unhide hv, unhide hbj]
      case measure => have := unhide Hjj; simp [intOf]; omega
    · obtain rfl : j = 2 := by omega
      have hd : decide (((2 + 1 : Nat) : Int) ≤ 2) = false := by decide
      have hv' := unhide hv
      subst hv'
      clear hv
      go_wp2
      go_ret2
      exact ⟨rfl, rfl⟩
set_option maxHeartbeats 2000000 in
theorem one_D0s1 (l : List UInt8) (hl : l.length ≤ 2305843009213693952) (a : Nat) (ha : a < l.length) (b0 : Nat) (hb : (l.getD a 0).toNat = b0) (hc : b0 = 240) (w : World) (h1 : wi l (a + 1) 144 191 = false) :
    Calls Tryd.prog 117 #[.string (str l), .int .i64 (a : Int)] w fun e w' => e = .returned (.tuple #[.int .i64 ((2000000 + b0 : Nat) : Int), .int .i64 1]) ∧ w' = w := by
  have hix := str_index l a ha
  rw [hb] at hix
  have hb256 : b0 < 256 := by rw [← hb]; exact UInt8.toNat_lt _
  have d1 : decide ((b0 : Int) < 128) = false := by simp; omega
  have d2 : decide ((194 : Int) ≤ (b0 : Int)) = true := by simp; omega
  have d3 : decide ((b0 : Int) ≤ 223) = false := by simp; omega
  have d4 : decide ((224 : Int) ≤ (b0 : Int)) = true := by simp; omega
  have d5 : decide ((b0 : Int) ≤ 239) = false := by simp; omega
  have d8 : decide ((240 : Int) ≤ (b0 : Int)) = true := by simp; omega
  have d9 : decide ((b0 : Int) ≤ 244) = true := by simp; omega
  have d10 : ((b0 : Int) == 240) = true := by simp; omega
  have d11 : ((b0 : Int) == 244) = false := by simp; omega
  have c1 : Hid (∀ w, Calls Tryd.prog 125 #[.string (str l), .int .i64 ((a : Int) + 1), .int .u8 144, .int .u8 191] w fun e w' => e = .returned (.bool false) ∧ w' = w) := fun w => by
    have := within_calls l (by omega) (a + 1) 144 191 w
    rw [h1] at this; exact this
  have hcm : ((2000000 + b0 : Nat) : Int) = (b0 : Int) + 2000000 := by omega
  rw [hcm]
  clear hc hb
  go_enter Tryd.func117, Tryd.ntmps117
  go_wp2_with fail
  refine (unhide c1 _).mono ?_
  rintro e w' ⟨rfl, rfl⟩
  go_wp2
  go_ret2
  exact ⟨rfl, rfl⟩
set_option maxHeartbeats 2000000 in
theorem one_D0s2 (l : List UInt8) (hl : l.length ≤ 2305843009213693952) (a : Nat) (ha : a < l.length) (b0 : Nat) (hb : (l.getD a 0).toNat = b0) (hc : b0 = 240) (w : World) (h1 : wi l (a + 1) 144 191 = true) (h2 : wi l (a + 2) 128 191 = false) :
    Calls Tryd.prog 117 #[.string (str l), .int .i64 (a : Int)] w fun e w' => e = .returned (.tuple #[.int .i64 ((2000000 + b0 : Nat) : Int), .int .i64 1]) ∧ w' = w := by
  have hix := str_index l a ha
  rw [hb] at hix
  have hb256 : b0 < 256 := by rw [← hb]; exact UInt8.toNat_lt _
  have d1 : decide ((b0 : Int) < 128) = false := by simp; omega
  have d2 : decide ((194 : Int) ≤ (b0 : Int)) = true := by simp; omega
  have d3 : decide ((b0 : Int) ≤ 223) = false := by simp; omega
  have d4 : decide ((224 : Int) ≤ (b0 : Int)) = true := by simp; omega
  have d5 : decide ((b0 : Int) ≤ 239) = false := by simp; omega
  have d8 : decide ((240 : Int) ≤ (b0 : Int)) = true := by simp; omega
  have d9 : decide ((b0 : Int) ≤ 244) = true := by simp; omega
  have d10 : ((b0 : Int) == 240) = true := by simp; omega
  have d11 : ((b0 : Int) == 244) = false := by simp; omega
  have c1 : Hid (∀ w, Calls Tryd.prog 125 #[.string (str l), .int .i64 ((a : Int) + 1), .int .u8 144, .int .u8 191] w fun e w' => e = .returned (.bool true) ∧ w' = w) := fun w => by
    have := within_calls l (by omega) (a + 1) 144 191 w
    rw [h1] at this; exact this
  have c2 : Hid (∀ w, Calls Tryd.prog 125 #[.string (str l), .int .i64 ((a : Int) + 2), .int .u8 128, .int .u8 191] w fun e w' => e = .returned (.bool false) ∧ w' = w) := fun w => by
    have := within_calls l (by omega) (a + 2) 128 191 w
    rw [h2] at this; exact this
  have hcm : ((2000000 + b0 : Nat) : Int) = (b0 : Int) + 2000000 := by omega
  rw [hcm]
  clear hc hb
  go_enter Tryd.func117, Tryd.ntmps117
  go_wp2_with fail
  refine (unhide c1 _).mono ?_
  rintro e w' ⟨rfl, rfl⟩
  go_wp2_with fail
  refine (unhide c2 _).mono ?_
  rintro e w' ⟨rfl, rfl⟩
  go_wp2
  go_ret2
  exact ⟨rfl, rfl⟩
set_option maxHeartbeats 2000000 in
theorem one_D0s3 (l : List UInt8) (hl : l.length ≤ 2305843009213693952) (a : Nat) (ha : a < l.length) (b0 : Nat) (hb : (l.getD a 0).toNat = b0) (hc : b0 = 240) (w : World) (h1 : wi l (a + 1) 144 191 = true) (h2 : wi l (a + 2) 128 191 = true) (h3 : wi l (a + 3) 128 191 = false) :
    Calls Tryd.prog 117 #[.string (str l), .int .i64 (a : Int)] w fun e w' => e = .returned (.tuple #[.int .i64 ((2000000 + b0 : Nat) : Int), .int .i64 1]) ∧ w' = w := by
  have hix := str_index l a ha
  rw [hb] at hix
  have hb256 : b0 < 256 := by rw [← hb]; exact UInt8.toNat_lt _
  have d1 : decide ((b0 : Int) < 128) = false := by simp; omega
  have d2 : decide ((194 : Int) ≤ (b0 : Int)) = true := by simp; omega
  have d3 : decide ((b0 : Int) ≤ 223) = false := by simp; omega
  have d4 : decide ((224 : Int) ≤ (b0 : Int)) = true := by simp; omega
  have d5 : decide ((b0 : Int) ≤ 239) = false := by simp; omega
  have d8 : decide ((240 : Int) ≤ (b0 : Int)) = true := by simp; omega
  have d9 : decide ((b0 : Int) ≤ 244) = true := by simp; omega
  have d10 : ((b0 : Int) == 240) = true := by simp; omega
  have d11 : ((b0 : Int) == 244) = false := by simp; omega
  have c1 : Hid (∀ w, Calls Tryd.prog 125 #[.string (str l), .int .i64 ((a : Int) + 1), .int .u8 144, .int .u8 191] w fun e w' => e = .returned (.bool true) ∧ w' = w) := fun w => by
    have := within_calls l (by omega) (a + 1) 144 191 w
    rw [h1] at this; exact this
  have c2 : Hid (∀ w, Calls Tryd.prog 125 #[.string (str l), .int .i64 ((a : Int) + 2), .int .u8 128, .int .u8 191] w fun e w' => e = .returned (.bool true) ∧ w' = w) := fun w => by
    have := within_calls l (by omega) (a + 2) 128 191 w
    rw [h2] at this; exact this
  have c3 : Hid (∀ w, Calls Tryd.prog 125 #[.string (str l), .int .i64 ((a : Int) + 3), .int .u8 128, .int .u8 191] w fun e w' => e = .returned (.bool false) ∧ w' = w) := fun w => by
    have := within_calls l (by omega) (a + 3) 128 191 w
    rw [h3] at this; exact this
  have hcm : ((2000000 + b0 : Nat) : Int) = (b0 : Int) + 2000000 := by omega
  rw [hcm]
  clear hc hb
  go_enter Tryd.func117, Tryd.ntmps117
  go_wp2_with fail
  refine (unhide c1 _).mono ?_
  rintro e w' ⟨rfl, rfl⟩
  go_wp2_with fail
  refine (unhide c2 _).mono ?_
  rintro e w' ⟨rfl, rfl⟩
  go_wp2_with fail
  refine (unhide c3 _).mono ?_
  rintro e w' ⟨rfl, rfl⟩
  go_wp2
  go_ret2
  exact ⟨rfl, rfl⟩
set_option maxHeartbeats 2000000 in
theorem one_D0r (l : List UInt8) (hl : l.length ≤ 2305843009213693952) (a : Nat) (ha : a < l.length) (b0 : Nat) (hb : (l.getD a 0).toNat = b0) (hc : b0 = 240) (w : World) (h1 : wi l (a + 1) 144 191 = true) (h2 : wi l (a + 2) 128 191 = true) (h3 : wi l (a + 3) 128 191 = true) :
    Calls Tryd.prog 117 #[.string (str l), .int .i64 (a : Int)] w fun e w' => e = .returned (.tuple #[.int .i64 (vv (b0 % 8) l a 3 : Int), .int .i64 4]) ∧ w' = w := by
  have hix := str_index l a ha
  rw [hb] at hix
  have hb256 : b0 < 256 := by rw [← hb]; exact UInt8.toNat_lt _
  have d1 : decide ((b0 : Int) < 128) = false := by simp; omega
  have d2 : decide ((194 : Int) ≤ (b0 : Int)) = true := by simp; omega
  have d3 : decide ((b0 : Int) ≤ 223) = false := by simp; omega
  have d4 : decide ((224 : Int) ≤ (b0 : Int)) = true := by simp; omega
  have d5 : decide ((b0 : Int) ≤ 239) = false := by simp; omega
  have d8 : decide ((240 : Int) ≤ (b0 : Int)) = true := by simp; omega
  have d9 : decide ((b0 : Int) ≤ 244) = true := by simp; omega
  have d10 : ((b0 : Int) == 240) = true := by simp; omega
  have d11 : ((b0 : Int) == 244) = false := by simp; omega
  have c1 : Hid (∀ w, Calls Tryd.prog 125 #[.string (str l), .int .i64 ((a : Int) + 1), .int .u8 144, .int .u8 191] w fun e w' => e = .returned (.bool true) ∧ w' = w) := fun w => by
    have := within_calls l (by omega) (a + 1) 144 191 w
    rw [h1] at this; exact this
  have c2 : Hid (∀ w, Calls Tryd.prog 125 #[.string (str l), .int .i64 ((a : Int) + 2), .int .u8 128, .int .u8 191] w fun e w' => e = .returned (.bool true) ∧ w' = w) := fun w => by
    have := within_calls l (by omega) (a + 2) 128 191 w
    rw [h2] at this; exact this
  have c3 : Hid (∀ w, Calls Tryd.prog 125 #[.string (str l), .int .i64 ((a : Int) + 3), .int .u8 128, .int .u8 191] w fun e w' => e = .returned (.bool true) ∧ w' = w) := fun w => by
    have := within_calls l (by omega) (a + 3) 128 191 w
    rw [h3] at this; exact this
  have hlen : a + 3 < l.length := by
    have := h3
    unfold wi at this
    simp only [Bool.and_eq_true, decide_eq_true_eq] at this
    exact this.1
  have hvl := vv_lt (b0 % 8) (by omega) l a
  obtain ⟨c0, hc0, ec0⟩ : ∃ c0 : Nat, Hid (b0 % 8 = c0) ∧ (b0 : Int) % 8 = (c0 : Int) := ⟨_, rfl, by omega⟩
  have e32 : (b0 : Int) % 32 = ((b0 % 32 : Nat) : Int) := by omega
  rw [unhide hc0] at hvl ⊢
  have hv0 : vv c0 l a 0 = c0 := rfl
  have Hvl := hide hvl
  clear hvl e32 h1 h2 h3
  clear hc hb
  go_enter Tryd.func117, Tryd.ntmps117
  go_wp2_with fail
  refine (unhide c1 _).mono ?_
  rintro e w' ⟨rfl, rfl⟩
  go_wp2_with fail
  refine (unhide c2 _).mono ?_
  rintro e w' ⟨rfl, rfl⟩
  go_wp2_with fail
  refine (unhide c3 _).mono ?_
  rintro e w' ⟨rfl, rfl⟩
  go_wp2
  go_loopw [10, 11] (fun x i wr => ∃ (j v : Nat), j ≤ 3 ∧ x = .int .i64 (v : Int) ∧ i = .int .i64 ((j + 1 : Nat) : Int) ∧ Hid (v = vv c0 l a j) ∧ wr = w') (fun _ i _ => 3 + 1 - (intOf i).toNat)
  case atStart => exact ⟨0, c0, by omega, by rw [ec0], rfl, rfl, rfl⟩
  case round =>
    obtain ⟨j, v, hj, rfl, rfl, hv, rfl⟩ := hrel
    by_cases hlt : j < 3
    · have hd : decide (((j + 1 : Nat) : Int) ≤ 3) = true := by simp; omega
      have hix2 : ∀ w, (Instr.index 9 (.string (str l)) (.int .i64 ((a : Int) + ((j + 1 : Nat) : Int)))).run Tryd.prog w = .ok (.int .u8 ((l.getD (a + 1 + j) 0).toNat : Int)) w := fun w => by
        have := str_index l (a + 1 + j) (by omega) w
        rw [show ((a + 1 + j : Nat) : Int) = (a : Int) + ((j + 1 : Nat) : Int) by omega] at this
        exact this
      have hvb : v < 131072 := by
        rw [unhide hv]
        refine Nat.lt_of_lt_of_le (unhide Hvl j) ?_
        have : 64 ^ j ≤ 64 ^ 2 := Nat.pow_le_pow_right (by decide) (by omega)
        omega
      obtain ⟨bj, hbj⟩ : ∃ bj, Hid ((l.getD (a + 1 + j) 0).toNat = bj) := ⟨_, rfl⟩
      rw [unhide hbj] at hix2
      have hbjb : bj < 256 := by rw [← unhide hbj]; exact UInt8.toNat_lt _
      generalize hjj : j + 1 = jj at *
      have Hjj := hide hjj
      have hjb : jj ≤ 3 := by omega
      clear hjj
      go_wp2
      go_roundw
      case rel =>
        refine ⟨j + 1, v * 64 + bj % 64, by omega, ?_, ?_, ?_, trivial⟩
        · congr 1 <;> omega
        · have hh := unhide Hjj
          rw [show ((j + 1 + 1 : Nat) : Int) = (jj : Int) + 1 by omega]
        · show _ = _
          rw [vv, ← unhide hv, unhide hbj]
      case measure => have := unhide Hjj; simp [intOf]; omega
    · obtain rfl : j = 3 := by omega
      have hd : decide (((3 + 1 : Nat) : Int) ≤ 3) = false := by decide
      have hv' := unhide hv
      subst hv'
      clear hv
      go_wp2
      go_ret2
      exact ⟨rfl, rfl⟩
set_option maxHeartbeats 2000000 in
theorem one_D1s1 (l : List UInt8) (hl : l.length ≤ 2305843009213693952) (a : Nat) (ha : a < l.length) (b0 : Nat) (hb : (l.getD a 0).toNat = b0) (hc : b0 = 244) (w : World) (h1 : wi l (a + 1) 128 143 = false) :
    Calls Tryd.prog 117 #[.string (str l), .int .i64 (a : Int)] w fun e w' => e = .returned (.tuple #[.int .i64 ((2000000 + b0 : Nat) : Int), .int .i64 1]) ∧ w' = w := by
  have hix := str_index l a ha
  rw [hb] at hix
  have hb256 : b0 < 256 := by rw [← hb]; exact UInt8.toNat_lt _
  have d1 : decide ((b0 : Int) < 128) = false := by simp; omega
  have d2 : decide ((194 : Int) ≤ (b0 : Int)) = true := by simp; omega
  have d3 : decide ((b0 : Int) ≤ 223) = false := by simp; omega
  have d4 : decide ((224 : Int) ≤ (b0 : Int)) = true := by simp; omega
  have d5 : decide ((b0 : Int) ≤ 239) = false := by simp; omega
  have d8 : decide ((240 : Int) ≤ (b0 : Int)) = true := by simp; omega
  have d9 : decide ((b0 : Int) ≤ 244) = true := by simp; omega
  have d10 : ((b0 : Int) == 240) = false := by simp; omega
  have d11 : ((b0 : Int) == 244) = true := by simp; omega
  have c1 : Hid (∀ w, Calls Tryd.prog 125 #[.string (str l), .int .i64 ((a : Int) + 1), .int .u8 128, .int .u8 143] w fun e w' => e = .returned (.bool false) ∧ w' = w) := fun w => by
    have := within_calls l (by omega) (a + 1) 128 143 w
    rw [h1] at this; exact this
  have hcm : ((2000000 + b0 : Nat) : Int) = (b0 : Int) + 2000000 := by omega
  rw [hcm]
  clear hc hb
  go_enter Tryd.func117, Tryd.ntmps117
  go_wp2_with fail
  refine (unhide c1 _).mono ?_
  rintro e w' ⟨rfl, rfl⟩
  go_wp2
  go_ret2
  exact ⟨rfl, rfl⟩
set_option maxHeartbeats 2000000 in
theorem one_D1s2 (l : List UInt8) (hl : l.length ≤ 2305843009213693952) (a : Nat) (ha : a < l.length) (b0 : Nat) (hb : (l.getD a 0).toNat = b0) (hc : b0 = 244) (w : World) (h1 : wi l (a + 1) 128 143 = true) (h2 : wi l (a + 2) 128 191 = false) :
    Calls Tryd.prog 117 #[.string (str l), .int .i64 (a : Int)] w fun e w' => e = .returned (.tuple #[.int .i64 ((2000000 + b0 : Nat) : Int), .int .i64 1]) ∧ w' = w := by
  have hix := str_index l a ha
  rw [hb] at hix
  have hb256 : b0 < 256 := by rw [← hb]; exact UInt8.toNat_lt _
  have d1 : decide ((b0 : Int) < 128) = false := by simp; omega
  have d2 : decide ((194 : Int) ≤ (b0 : Int)) = true := by simp; omega
  have d3 : decide ((b0 : Int) ≤ 223) = false := by simp; omega
  have d4 : decide ((224 : Int) ≤ (b0 : Int)) = true := by simp; omega
  have d5 : decide ((b0 : Int) ≤ 239) = false := by simp; omega
  have d8 : decide ((240 : Int) ≤ (b0 : Int)) = true := by simp; omega
  have d9 : decide ((b0 : Int) ≤ 244) = true := by simp; omega
  have d10 : ((b0 : Int) == 240) = false := by simp; omega
  have d11 : ((b0 : Int) == 244) = true := by simp; omega
  have c1 : Hid (∀ w, Calls Tryd.prog 125 #[.string (str l), .int .i64 ((a : Int) + 1), .int .u8 128, .int .u8 143] w fun e w' => e = .returned (.bool true) ∧ w' = w) := fun w => by
    have := within_calls l (by omega) (a + 1) 128 143 w
    rw [h1] at this; exact this
  have c2 : Hid (∀ w, Calls Tryd.prog 125 #[.string (str l), .int .i64 ((a : Int) + 2), .int .u8 128, .int .u8 191] w fun e w' => e = .returned (.bool false) ∧ w' = w) := fun w => by
    have := within_calls l (by omega) (a + 2) 128 191 w
    rw [h2] at this; exact this
  have hcm : ((2000000 + b0 : Nat) : Int) = (b0 : Int) + 2000000 := by omega
  rw [hcm]
  clear hc hb
  go_enter Tryd.func117, Tryd.ntmps117
  go_wp2_with fail
  refine (unhide c1 _).mono ?_
  rintro e w' ⟨rfl, rfl⟩
  go_wp2_with fail
  refine (unhide c2 _).mono ?_
  rintro e w' ⟨rfl, rfl⟩
  go_wp2
  go_ret2
  exact ⟨rfl, rfl⟩
set_option maxHeartbeats 2000000 in
theorem one_D1s3 (l : List UInt8) (hl : l.length ≤ 2305843009213693952) (a : Nat) (ha : a < l.length) (b0 : Nat) (hb : (l.getD a 0).toNat = b0) (hc : b0 = 244) (w : World) (h1 : wi l (a + 1) 128 143 = true) (h2 : wi l (a + 2) 128 191 = true) (h3 : wi l (a + 3) 128 191 = false) :
    Calls Tryd.prog 117 #[.string (str l), .int .i64 (a : Int)] w fun e w' => e = .returned (.tuple #[.int .i64 ((2000000 + b0 : Nat) : Int), .int .i64 1]) ∧ w' = w := by
  have hix := str_index l a ha
  rw [hb] at hix
  have hb256 : b0 < 256 := by rw [← hb]; exact UInt8.toNat_lt _
  have d1 : decide ((b0 : Int) < 128) = false := by simp; omega
  have d2 : decide ((194 : Int) ≤ (b0 : Int)) = true := by simp; omega
  have d3 : decide ((b0 : Int) ≤ 223) = false := by simp; omega
  have d4 : decide ((224 : Int) ≤ (b0 : Int)) = true := by simp; omega
  have d5 : decide ((b0 : Int) ≤ 239) = false := by simp; omega
  have d8 : decide ((240 : Int) ≤ (b0 : Int)) = true := by simp; omega
  have d9 : decide ((b0 : Int) ≤ 244) = true := by simp; omega
  have d10 : ((b0 : Int) == 240) = false := by simp; omega
  have d11 : ((b0 : Int) == 244) = true := by simp; omega
  have c1 : Hid (∀ w, Calls Tryd.prog 125 #[.string (str l), .int .i64 ((a : Int) + 1), .int .u8 128, .int .u8 143] w fun e w' => e = .returned (.bool true) ∧ w' = w) := fun w => by
    have := within_calls l (by omega) (a + 1) 128 143 w
    rw [h1] at this; exact this
  have c2 : Hid (∀ w, Calls Tryd.prog 125 #[.string (str l), .int .i64 ((a : Int) + 2), .int .u8 128, .int .u8 191] w fun e w' => e = .returned (.bool true) ∧ w' = w) := fun w => by
    have := within_calls l (by omega) (a + 2) 128 191 w
    rw [h2] at this; exact this
  have c3 : Hid (∀ w, Calls Tryd.prog 125 #[.string (str l), .int .i64 ((a : Int) + 3), .int .u8 128, .int .u8 191] w fun e w' => e = .returned (.bool false) ∧ w' = w) := fun w => by
    have := within_calls l (by omega) (a + 3) 128 191 w
    rw [h3] at this; exact this
  have hcm : ((2000000 + b0 : Nat) : Int) = (b0 : Int) + 2000000 := by omega
  rw [hcm]
  clear hc hb
  go_enter Tryd.func117, Tryd.ntmps117
  go_wp2_with fail
  refine (unhide c1 _).mono ?_
  rintro e w' ⟨rfl, rfl⟩
  go_wp2_with fail
  refine (unhide c2 _).mono ?_
  rintro e w' ⟨rfl, rfl⟩
  go_wp2_with fail
  refine (unhide c3 _).mono ?_
  rintro e w' ⟨rfl, rfl⟩
  go_wp2
  go_ret2
  exact ⟨rfl, rfl⟩
set_option maxHeartbeats 2000000 in
theorem one_D1r (l : List UInt8) (hl : l.length ≤ 2305843009213693952) (a : Nat) (ha : a < l.length) (b0 : Nat) (hb : (l.getD a 0).toNat = b0) (hc : b0 = 244) (w : World) (h1 : wi l (a + 1) 128 143 = true) (h2 : wi l (a + 2) 128 191 = true) (h3 : wi l (a + 3) 128 191 = true) :
    Calls Tryd.prog 117 #[.string (str l), .int .i64 (a : Int)] w fun e w' => e = .returned (.tuple #[.int .i64 (vv (b0 % 8) l a 3 : Int), .int .i64 4]) ∧ w' = w := by
  have hix := str_index l a ha
  rw [hb] at hix
  have hb256 : b0 < 256 := by rw [← hb]; exact UInt8.toNat_lt _
  have d1 : decide ((b0 : Int) < 128) = false := by simp; omega
  have d2 : decide ((194 : Int) ≤ (b0 : Int)) = true := by simp; omega
  have d3 : decide ((b0 : Int) ≤ 223) = false := by simp; omega
  have d4 : decide ((224 : Int) ≤ (b0 : Int)) = true := by simp; omega
  have d5 : decide ((b0 : Int) ≤ 239) = false := by simp; omega
  have d8 : decide ((240 : Int) ≤ (b0 : Int)) = true := by simp; omega
  have d9 : decide ((b0 : Int) ≤ 244) = true := by simp; omega
  have d10 : ((b0 : Int) == 240) = false := by simp; omega
  have d11 : ((b0 : Int) == 244) = true := by simp; omega
  have c1 : Hid (∀ w, Calls Tryd.prog 125 #[.string (str l), .int .i64 ((a : Int) + 1), .int .u8 128, .int .u8 143] w fun e w' => e = .returned (.bool true) ∧ w' = w) := fun w => by
    have := within_calls l (by omega) (a + 1) 128 143 w
    rw [h1] at this; exact this
  have c2 : Hid (∀ w, Calls Tryd.prog 125 #[.string (str l), .int .i64 ((a : Int) + 2), .int .u8 128, .int .u8 191] w fun e w' => e = .returned (.bool true) ∧ w' = w) := fun w => by
    have := within_calls l (by omega) (a + 2) 128 191 w
    rw [h2] at this; exact this
  have c3 : Hid (∀ w, Calls Tryd.prog 125 #[.string (str l), .int .i64 ((a : Int) + 3), .int .u8 128, .int .u8 191] w fun e w' => e = .returned (.bool true) ∧ w' = w) := fun w => by
    have := within_calls l (by omega) (a + 3) 128 191 w
    rw [h3] at this; exact this
  have hlen : a + 3 < l.length := by
    have := h3
    unfold wi at this
    simp only [Bool.and_eq_true, decide_eq_true_eq] at this
    exact this.1
  have hvl := vv_lt (b0 % 8) (by omega) l a
  obtain ⟨c0, hc0, ec0⟩ : ∃ c0 : Nat, Hid (b0 % 8 = c0) ∧ (b0 : Int) % 8 = (c0 : Int) := ⟨_, rfl, by omega⟩
  have e32 : (b0 : Int) % 32 = ((b0 % 32 : Nat) : Int) := by omega
  rw [unhide hc0] at hvl ⊢
  have hv0 : vv c0 l a 0 = c0 := rfl
  have Hvl := hide hvl
  clear hvl e32 h1 h2 h3
  clear hc hb
  go_enter Tryd.func117, Tryd.ntmps117
  go_wp2_with fail
  refine (unhide c1 _).mono ?_
  rintro e w' ⟨rfl, rfl⟩
  go_wp2_with fail
  refine (unhide c2 _).mono ?_
  rintro e w' ⟨rfl, rfl⟩
  go_wp2_with fail
  refine (unhide c3 _).mono ?_
  rintro e w' ⟨rfl, rfl⟩
  go_wp2
  go_loopw [10, 11] (fun x i wr => ∃ (j v : Nat), j ≤ 3 ∧ x = .int .i64 (v : Int) ∧ i = .int .i64 ((j + 1 : Nat) : Int) ∧ Hid (v = vv c0 l a j) ∧ wr = w') (fun _ i _ => 3 + 1 - (intOf i).toNat)
  case atStart => exact ⟨0, c0, by omega, by rw [ec0], rfl, rfl, rfl⟩
  case round =>
    obtain ⟨j, v, hj, rfl, rfl, hv, rfl⟩ := hrel
    by_cases hlt : j < 3
    · have hd : decide (((j + 1 : Nat) : Int) ≤ 3) = true := by simp; omega
      have hix2 : ∀ w, (Instr.index 9 (.string (str l)) (.int .i64 ((a : Int) + ((j + 1 : Nat) : Int)))).run Tryd.prog w = .ok (.int .u8 ((l.getD (a + 1 + j) 0).toNat : Int)) w := fun w => by
        have := str_index l (a + 1 + j) (by omega) w
        rw [show ((a + 1 + j : Nat) : Int) = (a : Int) + ((j + 1 : Nat) : Int) by omega] at this
        exact this
      have hvb : v < 131072 := by
        rw [unhide hv]
        refine Nat.lt_of_lt_of_le (unhide Hvl j) ?_
        have : 64 ^ j ≤ 64 ^ 2 := Nat.pow_le_pow_right (by decide) (by omega)
        omega
      obtain ⟨bj, hbj⟩ : ∃ bj, Hid ((l.getD (a + 1 + j) 0).toNat = bj) := ⟨_, rfl⟩
      rw [unhide hbj] at hix2
      have hbjb : bj < 256 := by rw [← unhide hbj]; exact UInt8.toNat_lt _
      generalize hjj : j + 1 = jj at *
      have Hjj := hide hjj
      have hjb : jj ≤ 3 := by omega
      clear hjj
      go_wp2
      go_roundw
      case rel =>
        refine ⟨j + 1, v * 64 + bj % 64, by omega, ?_, ?_, ?_, trivial⟩
        · congr 1 <;> omega
        · have hh := unhide Hjj
          rw [show ((j + 1 + 1 : Nat) : Int) = (jj : Int) + 1 by omega]
        · show _ = _
          rw [vv, ← unhide hv, unhide hbj]
      case measure => have := unhide Hjj; simp [intOf]; omega
    · obtain rfl : j = 3 := by omega
      have hd : decide (((3 + 1 : Nat) : Int) ≤ 3) = false := by decide
      have hv' := unhide hv
      subst hv'
      clear hv
      go_wp2
      go_ret2
      exact ⟨rfl, rfl⟩
set_option maxHeartbeats 2000000 in
theorem one_D2s1 (l : List UInt8) (hl : l.length ≤ 2305843009213693952) (a : Nat) (ha : a < l.length) (b0 : Nat) (hb : (l.getD a 0).toNat = b0) (hc : 241 ≤ b0 ∧ b0 ≤ 243) (w : World) (h1 : wi l (a + 1) 128 191 = false) :
    Calls Tryd.prog 117 #[.string (str l), .int .i64 (a : Int)] w fun e w' => e = .returned (.tuple #[.int .i64 ((2000000 + b0 : Nat) : Int), .int .i64 1]) ∧ w' = w := by
  have hix := str_index l a ha
  rw [hb] at hix
  have hb256 : b0 < 256 := by rw [← hb]; exact UInt8.toNat_lt _
  have d1 : decide ((b0 : Int) < 128) = false := by simp; omega
  have d2 : decide ((194 : Int) ≤ (b0 : Int)) = true := by simp; omega
  have d3 : decide ((b0 : Int) ≤ 223) = false := by simp; omega
  have d4 : decide ((224 : Int) ≤ (b0 : Int)) = true := by simp; omega
  have d5 : decide ((b0 : Int) ≤ 239) = false := by simp; omega
  have d8 : decide ((240 : Int) ≤ (b0 : Int)) = true := by simp; omega
  have d9 : decide ((b0 : Int) ≤ 244) = true := by simp; omega
  have d10 : ((b0 : Int) == 240) = false := by simp; omega
  have d11 : ((b0 : Int) == 244) = false := by simp; omega
  have c1 : Hid (∀ w, Calls Tryd.prog 125 #[.string (str l), .int .i64 ((a : Int) + 1), .int .u8 128, .int .u8 191] w fun e w' => e = .returned (.bool false) ∧ w' = w) := fun w => by
    have := within_calls l (by omega) (a + 1) 128 191 w
    rw [h1] at this; exact this
  have hcm : ((2000000 + b0 : Nat) : Int) = (b0 : Int) + 2000000 := by omega
  rw [hcm]
  clear hc hb
  go_enter Tryd.func117, Tryd.ntmps117
  go_wp2_with fail
  refine (unhide c1 _).mono ?_
  rintro e w' ⟨rfl, rfl⟩
  go_wp2
  go_ret2
  exact ⟨rfl, rfl⟩
set_option maxHeartbeats 2000000 in
theorem one_D2s2 (l : List UInt8) (hl : l.length ≤ 2305843009213693952) (a : Nat) (ha : a < l.length) (b0 : Nat) (hb : (l.getD a 0).toNat = b0) (hc : 241 ≤ b0 ∧ b0 ≤ 243) (w : World) (h1 : wi l (a + 1) 128 191 = true) (h2 : wi l (a + 2) 128 191 = false) :
    Calls Tryd.prog 117 #[.string (str l), .int .i64 (a : Int)] w fun e w' => e = .returned (.tuple #[.int .i64 ((2000000 + b0 : Nat) : Int), .int .i64 1]) ∧ w' = w := by
  have hix := str_index l a ha
  rw [hb] at hix
  have hb256 : b0 < 256 := by rw [← hb]; exact UInt8.toNat_lt _
  have d1 : decide ((b0 : Int) < 128) = false := by simp; omega
  have d2 : decide ((194 : Int) ≤ (b0 : Int)) = true := by simp; omega
  have d3 : decide ((b0 : Int) ≤ 223) = false := by simp; omega
  have d4 : decide ((224 : Int) ≤ (b0 : Int)) = true := by simp; omega
  have d5 : decide ((b0 : Int) ≤ 239) = false := by simp; omega
  have d8 : decide ((240 : Int) ≤ (b0 : Int)) = true := by simp; omega
  have d9 : decide ((b0 : Int) ≤ 244) = true := by simp; omega
  have d10 : ((b0 : Int) == 240) = false := by simp; omega
  have d11 : ((b0 : Int) == 244) = false := by simp; omega
  have c1 : Hid (∀ w, Calls Tryd.prog 125 #[.string (str l), .int .i64 ((a : Int) + 1), .int .u8 128, .int .u8 191] w fun e w' => e = .returned (.bool true) ∧ w' = w) := fun w => by
    have := within_calls l (by omega) (a + 1) 128 191 w
    rw [h1] at this; exact this
  have c2 : Hid (∀ w, Calls Tryd.prog 125 #[.string (str l), .int .i64 ((a : Int) + 2), .int .u8 128, .int .u8 191] w fun e w' => e = .returned (.bool false) ∧ w' = w) := fun w => by
    have := within_calls l (by omega) (a + 2) 128 191 w
    rw [h2] at this; exact this
  have hcm : ((2000000 + b0 : Nat) : Int) = (b0 : Int) + 2000000 := by omega
  rw [hcm]
  clear hc hb
  go_enter Tryd.func117, Tryd.ntmps117
  go_wp2_with fail
  refine (unhide c1 _).mono ?_
  rintro e w' ⟨rfl, rfl⟩
  go_wp2_with fail
  refine (unhide c2 _).mono ?_
  rintro e w' ⟨rfl, rfl⟩
  go_wp2
  go_ret2
  exact ⟨rfl, rfl⟩
set_option maxHeartbeats 2000000 in
theorem one_D2s3 (l : List UInt8) (hl : l.length ≤ 2305843009213693952) (a : Nat) (ha : a < l.length) (b0 : Nat) (hb : (l.getD a 0).toNat = b0) (hc : 241 ≤ b0 ∧ b0 ≤ 243) (w : World) (h1 : wi l (a + 1) 128 191 = true) (h2 : wi l (a + 2) 128 191 = true) (h3 : wi l (a + 3) 128 191 = false) :
    Calls Tryd.prog 117 #[.string (str l), .int .i64 (a : Int)] w fun e w' => e = .returned (.tuple #[.int .i64 ((2000000 + b0 : Nat) : Int), .int .i64 1]) ∧ w' = w := by
  have hix := str_index l a ha
  rw [hb] at hix
  have hb256 : b0 < 256 := by rw [← hb]; exact UInt8.toNat_lt _
  have d1 : decide ((b0 : Int) < 128) = false := by simp; omega
  have d2 : decide ((194 : Int) ≤ (b0 : Int)) = true := by simp; omega
  have d3 : decide ((b0 : Int) ≤ 223) = false := by simp; omega
  have d4 : decide ((224 : Int) ≤ (b0 : Int)) = true := by simp; omega
  have d5 : decide ((b0 : Int) ≤ 239) = false := by simp; omega
  have d8 : decide ((240 : Int) ≤ (b0 : Int)) = true := by simp; omega
  have d9 : decide ((b0 : Int) ≤ 244) = true := by simp; omega
  have d10 : ((b0 : Int) == 240) = false := by simp; omega
  have d11 : ((b0 : Int) == 244) = false := by simp; omega
  have c1 : Hid (∀ w, Calls Tryd.prog 125 #[.string (str l), .int .i64 ((a : Int) + 1), .int .u8 128, .int .u8 191] w fun e w' => e = .returned (.bool true) ∧ w' = w) := fun w => by
    have := within_calls l (by omega) (a + 1) 128 191 w
    rw [h1] at this; exact this
  have c2 : Hid (∀ w, Calls Tryd.prog 125 #[.string (str l), .int .i64 ((a : Int) + 2), .int .u8 128, .int .u8 191] w fun e w' => e = .returned (.bool true) ∧ w' = w) := fun w => by
    have := within_calls l (by omega) (a + 2) 128 191 w
    rw [h2] at this; exact this
  have c3 : Hid (∀ w, Calls Tryd.prog 125 #[.string (str l), .int .i64 ((a : Int) + 3), .int .u8 128, .int .u8 191] w fun e w' => e = .returned (.bool false) ∧ w' = w) := fun w => by
    have := within_calls l (by omega) (a + 3) 128 191 w
    rw [h3] at this; exact this
  have hcm : ((2000000 + b0 : Nat) : Int) = (b0 : Int) + 2000000 := by omega
  rw [hcm]
  clear hc hb
  go_enter Tryd.func117, Tryd.ntmps117
  go_wp2_with fail
  refine (unhide c1 _).mono ?_
  rintro e w' ⟨rfl, rfl⟩
  go_wp2_with fail
  refine (unhide c2 _).mono ?_
  rintro e w' ⟨rfl, rfl⟩
  go_wp2_with fail
  refine (unhide c3 _).mono ?_
  rintro e w' ⟨rfl, rfl⟩
  go_wp2
  go_ret2
  exact ⟨rfl, rfl⟩
set_option maxHeartbeats 2000000 in
theorem one_D2r (l : List UInt8) (hl : l.length ≤ 2305843009213693952) (a : Nat) (ha : a < l.length) (b0 : Nat) (hb : (l.getD a 0).toNat = b0) (hc : 241 ≤ b0 ∧ b0 ≤ 243) (w : World) (h1 : wi l (a + 1) 128 191 = true) (h2 : wi l (a + 2) 128 191 = true) (h3 : wi l (a + 3) 128 191 = true) :
    Calls Tryd.prog 117 #[.string (str l), .int .i64 (a : Int)] w fun e w' => e = .returned (.tuple #[.int .i64 (vv (b0 % 8) l a 3 : Int), .int .i64 4]) ∧ w' = w := by
  have hix := str_index l a ha
  rw [hb] at hix
  have hb256 : b0 < 256 := by rw [← hb]; exact UInt8.toNat_lt _
  have d1 : decide ((b0 : Int) < 128) = false := by simp; omega
  have d2 : decide ((194 : Int) ≤ (b0 : Int)) = true := by simp; omega
  have d3 : decide ((b0 : Int) ≤ 223) = false := by simp; omega
  have d4 : decide ((224 : Int) ≤ (b0 : Int)) = true := by simp; omega
  have d5 : decide ((b0 : Int) ≤ 239) = false := by simp; omega
  have d8 : decide ((240 : Int) ≤ (b0 : Int)) = true := by simp; omega
  have d9 : decide ((b0 : Int) ≤ 244) = true := by simp; omega
  have d10 : ((b0 : Int) == 240) = false := by simp; omega
  have d11 : ((b0 : Int) == 244) = false := by simp; omega
  have c1 : Hid (∀ w, Calls Tryd.prog 125 #[.string (str l), .int .i64 ((a : Int) + 1), .int .u8 128, .int .u8 191] w fun e w' => e = .returned (.bool true) ∧ w' = w) := fun w => by
    have := within_calls l (by omega) (a + 1) 128 191 w
    rw [h1] at this; exact this
  have c2 : Hid (∀ w, Calls Tryd.prog 125 #[.string (str l), .int .i64 ((a : Int) + 2), .int .u8 128, .int .u8 191] w fun e w' => e = .returned (.bool true) ∧ w' = w) := fun w => by
    have := within_calls l (by omega) (a + 2) 128 191 w
    rw [h2] at this; exact this
  have c3 : Hid (∀ w, Calls Tryd.prog 125 #[.string (str l), .int .i64 ((a : Int) + 3), .int .u8 128, .int .u8 191] w fun e w' => e = .returned (.bool true) ∧ w' = w) := fun w => by
    have := within_calls l (by omega) (a + 3) 128 191 w
    rw [h3] at this; exact this
  have hlen : a + 3 < l.length := by
    have := h3
    unfold wi at this
    simp only [Bool.and_eq_true, decide_eq_true_eq] at this
    exact this.1
  have hvl := vv_lt (b0 % 8) (by omega) l a
  obtain ⟨c0, hc0, ec0⟩ : ∃ c0 : Nat, Hid (b0 % 8 = c0) ∧ (b0 : Int) % 8 = (c0 : Int) := ⟨_, rfl, by omega⟩
  have e32 : (b0 : Int) % 32 = ((b0 % 32 : Nat) : Int) := by omega
  rw [unhide hc0] at hvl ⊢
  have hv0 : vv c0 l a 0 = c0 := rfl
  have Hvl := hide hvl
  clear hvl e32 h1 h2 h3
  clear hc hb
  go_enter Tryd.func117, Tryd.ntmps117
  go_wp2_with fail
  refine (unhide c1 _).mono ?_
  rintro e w' ⟨rfl, rfl⟩
  go_wp2_with fail
  refine (unhide c2 _).mono ?_
  rintro e w' ⟨rfl, rfl⟩
  go_wp2_with fail
  refine (unhide c3 _).mono ?_
  rintro e w' ⟨rfl, rfl⟩
  go_wp2
  go_loopw [10, 11] (fun x i wr => ∃ (j v : Nat), j ≤ 3 ∧ x = .int .i64 (v : Int) ∧ i = .int .i64 ((j + 1 : Nat) : Int) ∧ Hid (v = vv c0 l a j) ∧ wr = w') (fun _ i _ => 3 + 1 - (intOf i).toNat)
  case atStart => exact ⟨0, c0, by omega, by rw [ec0], rfl, rfl, rfl⟩
  case round =>
    obtain ⟨j, v, hj, rfl, rfl, hv, rfl⟩ := hrel
    by_cases hlt : j < 3
    · have hd : decide (((j + 1 : Nat) : Int) ≤ 3) = true := by simp; omega
      have hix2 : ∀ w, (Instr.index 9 (.string (str l)) (.int .i64 ((a : Int) + ((j + 1 : Nat) : Int)))).run Tryd.prog w = .ok (.int .u8 ((l.getD (a + 1 + j) 0).toNat : Int)) w := fun w => by
        have := str_index l (a + 1 + j) (by omega) w
        rw [show ((a + 1 + j : Nat) : Int) = (a : Int) + ((j + 1 : Nat) : Int) by omega] at this
        exact this
      have hvb : v < 131072 := by
        rw [unhide hv]
        refine Nat.lt_of_lt_of_le (unhide Hvl j) ?_
        have : 64 ^ j ≤ 64 ^ 2 := Nat.pow_le_pow_right (by decide) (by omega)
        omega
      obtain ⟨bj, hbj⟩ : ∃ bj, Hid ((l.getD (a + 1 + j) 0).toNat = bj) := ⟨_, rfl⟩
      rw [unhide hbj] at hix2
      have hbjb : bj < 256 := by rw [← unhide hbj]; exact UInt8.toNat_lt _
      generalize hjj : j + 1 = jj at *
      have Hjj := hide hjj
      have hjb : jj ≤ 3 := by omega
      clear hjj
      go_wp2
      go_roundw
      case rel =>
        refine ⟨j + 1, v * 64 + bj % 64, by omega, ?_, ?_, ?_, trivial⟩
        · congr 1 <;> omega
        · have hh := unhide Hjj
          rw [show ((j + 1 + 1 : Nat) : Int) = (jj : Int) + 1 by omega]
        · show _ = _
          rw [vv, ← unhide hv, unhide hbj]
      case measure => have := unhide Hjj; simp [intOf]; omega
    · obtain rfl : j = 3 := by omega
      have hd : decide (((3 + 1 : Nat) : Int) ≤ 3) = false := by decide
      have hv' := unhide hv
      subst hv'
      clear hv
      go_wp2
      go_ret2
      exact ⟨rfl, rfl⟩
end Go.Proofs.YtjfnaedcdmmigaaDoor

namespace Go.Proofs.YtjfnaedcdmmigaaDoor
open Go.RowKit
set_option linter.unusedSimpArgs false
set_option linter.unusedVariables false

theorem wi_true {l : List UInt8} {p lo hi : Nat} (h : wi l p lo hi = true) : p < l.length ∧ lo ≤ (l.getD p 0).toNat ∧ (l.getD p 0).toNat ≤ hi := by
  unfold wi at h
  simpa only [Bool.and_eq_true, decide_eq_true_eq] using h
theorem wi_false {l : List UInt8} {p lo hi : Nat} (h : wi l p lo hi = false) : l.length ≤ p ∨ (l.getD p 0).toNat < lo ∨ hi < (l.getD p 0).toNat := by
  unfold wi at h
  simp only [Bool.and_eq_false_iff, decide_eq_false_iff_not] at h
  omega
theorem dec_at (l : List UInt8) (a : Nat) : Lib.decodeL (l.drop a) = Lib.decodeN (l.length - a) (l.getD a 0).toNat (l.getD (a + 1) 0).toNat (l.getD (a + 2) 0).toNat (l.getD (a + 3) 0).toNat := by
  rw [Lib.decodeL_N, List.length_drop, getD_drop', getD_drop', getD_drop', getD_drop', Nat.add_zero]
/-- What it is answered at a place: the number, and how many bytes. -/
def OneIs (l : List UInt8) (a : Nat) (w : World) : Prop :=
  Calls Tryd.prog 117 #[.string (str l), .int .i64 (a : Int)] w fun e w' => e = .returned (.tuple #[.int .i64 (tokNum (headTok (l.drop a)) : Int), .int .i64 ((Lib.decodeL (l.drop a)).2 : Int)]) ∧ w' = w
theorem one_stray (l : List UInt8) (a b0 : Nat) (hb : (l.getD a 0).toNat = b0) (w : World) (hd : Lib.decodeL (l.drop a) = (65533, 1))
    (h : Calls Tryd.prog 117 #[.string (str l), .int .i64 (a : Int)] w fun e w' => e = .returned (.tuple #[.int .i64 ((2000000 + b0 : Nat) : Int), .int .i64 1]) ∧ w' = w) : OneIs l a w := by
  unfold OneIs
  rw [tokNum_stray _ hd, hd, getD_drop', Nat.add_zero, hb]
  exact h
theorem one_rune (l : List UInt8) (a v k : Nat) (w : World) (hd : Lib.decodeL (l.drop a) = (v, k)) (hk : k ≠ 1 ∨ v ≠ 65533)
    (h : Calls Tryd.prog 117 #[.string (str l), .int .i64 (a : Int)] w fun e w' => e = .returned (.tuple #[.int .i64 (v : Int), .int .i64 (k : Int)]) ∧ w' = w) : OneIs l a w := by
  unfold OneIs
  rw [tokNum_rune _ v k hd hk, hd]
  exact h
theorem one_is_B (l : List UInt8) (hl : l.length ≤ 2305843009213693952) (a : Nat) (ha : a < l.length) (hc : (194 ≤ (l.getD a 0).toNat ∧ (l.getD a 0).toNat ≤ 223)) (w : World) : OneIs l a w := by
  have k1 := (l.getD (a + 1) 0).toNat_lt
  have k2 := (l.getD (a + 2) 0).toNat_lt
  have k3 := (l.getD (a + 3) 0).toNat_lt
  have hd := dec_at l a
  rw [← Lib.slow_C2 _ _ _ _ _ (by omega) k1 k2 k3 (by omega)] at hd
  cases h1 : wi l (a + 1) 128 191 with
  | false =>
    have f1 := wi_false h1
    refine one_stray l a _ rfl w (hd.trans ?_) (one_Bs1 l hl a ha _ rfl hc w h1)
    unfold Lib.slowN
    repeat' split
    all_goals first | rfl | (exfalso; omega)
  | true =>
  have t1 := wi_true h1
  refine one_rune l a (vv ((l.getD a 0).toNat % 32) l a 1) 2 w (hd.trans ?_) (.inl (by decide)) (one_Br l hl a ha _ rfl hc w h1)
  unfold Lib.slowN
  repeat' split
  all_goals first | (exfalso; omega) | skip
  all_goals (refine Prod.ext ?_ rfl; simp only [vv, Nat.add_zero, show a + 1 + 1 = a + 2 from rfl, show a + 1 + 2 = a + 3 from rfl] <;> omega)
theorem one_is_C0 (l : List UInt8) (hl : l.length ≤ 2305843009213693952) (a : Nat) (ha : a < l.length) (hc : ((l.getD a 0).toNat = 224)) (w : World) : OneIs l a w := by
  have k1 := (l.getD (a + 1) 0).toNat_lt
  have k2 := (l.getD (a + 2) 0).toNat_lt
  have k3 := (l.getD (a + 3) 0).toNat_lt
  have hd := dec_at l a
  rw [← Lib.slow_E0 _ _ _ _ _ (by omega) k1 k2 k3 (by omega)] at hd
  cases h1 : wi l (a + 1) 160 191 with
  | false =>
    have f1 := wi_false h1
    refine one_stray l a _ rfl w (hd.trans ?_) (one_C0s1 l hl a ha _ rfl hc w h1)
    unfold Lib.slowN
    repeat' split
    all_goals first | rfl | (exfalso; omega)
  | true =>
  have t1 := wi_true h1
  cases h2 : wi l (a + 2) 128 191 with
  | false =>
    have f2 := wi_false h2
    refine one_stray l a _ rfl w (hd.trans ?_) (one_C0s2 l hl a ha _ rfl hc w h1 h2)
    unfold Lib.slowN
    repeat' split
    all_goals first | rfl | (exfalso; omega)
  | true =>
  have t2 := wi_true h2
  refine one_rune l a (vv ((l.getD a 0).toNat % 16) l a 2) 3 w (hd.trans ?_) (.inl (by decide)) (one_C0r l hl a ha _ rfl hc w h1 h2)
  unfold Lib.slowN
  repeat' split
  all_goals first | (exfalso; omega) | skip
  all_goals (refine Prod.ext ?_ rfl; simp only [vv, Nat.add_zero, show a + 1 + 1 = a + 2 from rfl, show a + 1 + 2 = a + 3 from rfl] <;> omega)
theorem one_is_C1 (l : List UInt8) (hl : l.length ≤ 2305843009213693952) (a : Nat) (ha : a < l.length) (hc : ((l.getD a 0).toNat = 237)) (w : World) : OneIs l a w := by
  have k1 := (l.getD (a + 1) 0).toNat_lt
  have k2 := (l.getD (a + 2) 0).toNat_lt
  have k3 := (l.getD (a + 3) 0).toNat_lt
  have hd := dec_at l a
  rw [← Lib.slow_ED _ _ _ _ _ (by omega) k1 k2 k3 (by omega)] at hd
  cases h1 : wi l (a + 1) 128 159 with
  | false =>
    have f1 := wi_false h1
    refine one_stray l a _ rfl w (hd.trans ?_) (one_C1s1 l hl a ha _ rfl hc w h1)
    unfold Lib.slowN
    repeat' split
    all_goals first | rfl | (exfalso; omega)
  | true =>
  have t1 := wi_true h1
  cases h2 : wi l (a + 2) 128 191 with
  | false =>
    have f2 := wi_false h2
    refine one_stray l a _ rfl w (hd.trans ?_) (one_C1s2 l hl a ha _ rfl hc w h1 h2)
    unfold Lib.slowN
    repeat' split
    all_goals first | rfl | (exfalso; omega)
  | true =>
  have t2 := wi_true h2
  refine one_rune l a (vv ((l.getD a 0).toNat % 16) l a 2) 3 w (hd.trans ?_) (.inl (by decide)) (one_C1r l hl a ha _ rfl hc w h1 h2)
  unfold Lib.slowN
  repeat' split
  all_goals first | (exfalso; omega) | skip
  all_goals (refine Prod.ext ?_ rfl; simp only [vv, Nat.add_zero, show a + 1 + 1 = a + 2 from rfl, show a + 1 + 2 = a + 3 from rfl] <;> omega)
theorem one_is_C2 (l : List UInt8) (hl : l.length ≤ 2305843009213693952) (a : Nat) (ha : a < l.length) (hc : ((225 ≤ (l.getD a 0).toNat ∧ (l.getD a 0).toNat ≤ 236) ∨ (238 ≤ (l.getD a 0).toNat ∧ (l.getD a 0).toNat ≤ 239))) (w : World) : OneIs l a w := by
  have k1 := (l.getD (a + 1) 0).toNat_lt
  have k2 := (l.getD (a + 2) 0).toNat_lt
  have k3 := (l.getD (a + 3) 0).toNat_lt
  have hd := dec_at l a
  rw [← Lib.slow_E1 _ _ _ _ _ (by omega) k1 k2 k3 (by omega)] at hd
  cases h1 : wi l (a + 1) 128 191 with
  | false =>
    have f1 := wi_false h1
    refine one_stray l a _ rfl w (hd.trans ?_) (one_C2s1 l hl a ha _ rfl hc w h1)
    unfold Lib.slowN
    repeat' split
    all_goals first | rfl | (exfalso; omega)
  | true =>
  have t1 := wi_true h1
  cases h2 : wi l (a + 2) 128 191 with
  | false =>
    have f2 := wi_false h2
    refine one_stray l a _ rfl w (hd.trans ?_) (one_C2s2 l hl a ha _ rfl hc w h1 h2)
    unfold Lib.slowN
    repeat' split
    all_goals first | rfl | (exfalso; omega)
  | true =>
  have t2 := wi_true h2
  refine one_rune l a (vv ((l.getD a 0).toNat % 16) l a 2) 3 w (hd.trans ?_) (.inl (by decide)) (one_C2r l hl a ha _ rfl hc w h1 h2)
  unfold Lib.slowN
  repeat' split
  all_goals first | (exfalso; omega) | skip
  all_goals (refine Prod.ext ?_ rfl; simp only [vv, Nat.add_zero, show a + 1 + 1 = a + 2 from rfl, show a + 1 + 2 = a + 3 from rfl] <;> omega)
theorem one_is_D0 (l : List UInt8) (hl : l.length ≤ 2305843009213693952) (a : Nat) (ha : a < l.length) (hc : ((l.getD a 0).toNat = 240)) (w : World) : OneIs l a w := by
  have k1 := (l.getD (a + 1) 0).toNat_lt
  have k2 := (l.getD (a + 2) 0).toNat_lt
  have k3 := (l.getD (a + 3) 0).toNat_lt
  have hd := dec_at l a
  rw [← Lib.slow_F0 _ _ _ _ _ (by omega) k1 k2 k3 (by omega)] at hd
  cases h1 : wi l (a + 1) 144 191 with
  | false =>
    have f1 := wi_false h1
    refine one_stray l a _ rfl w (hd.trans ?_) (one_D0s1 l hl a ha _ rfl hc w h1)
    unfold Lib.slowN
    repeat' split
    all_goals first | rfl | (exfalso; omega)
  | true =>
  have t1 := wi_true h1
  cases h2 : wi l (a + 2) 128 191 with
  | false =>
    have f2 := wi_false h2
    refine one_stray l a _ rfl w (hd.trans ?_) (one_D0s2 l hl a ha _ rfl hc w h1 h2)
    unfold Lib.slowN
    repeat' split
    all_goals first | rfl | (exfalso; omega)
  | true =>
  have t2 := wi_true h2
  cases h3 : wi l (a + 3) 128 191 with
  | false =>
    have f3 := wi_false h3
    refine one_stray l a _ rfl w (hd.trans ?_) (one_D0s3 l hl a ha _ rfl hc w h1 h2 h3)
    unfold Lib.slowN
    repeat' split
    all_goals first | rfl | (exfalso; omega)
  | true =>
  have t3 := wi_true h3
  refine one_rune l a (vv ((l.getD a 0).toNat % 8) l a 3) 4 w (hd.trans ?_) (.inl (by decide)) (one_D0r l hl a ha _ rfl hc w h1 h2 h3)
  unfold Lib.slowN
  repeat' split
  all_goals first | (exfalso; omega) | skip
  all_goals (refine Prod.ext ?_ rfl; simp only [vv, Nat.add_zero, show a + 1 + 1 = a + 2 from rfl, show a + 1 + 2 = a + 3 from rfl] <;> omega)
theorem one_is_D1 (l : List UInt8) (hl : l.length ≤ 2305843009213693952) (a : Nat) (ha : a < l.length) (hc : ((l.getD a 0).toNat = 244)) (w : World) : OneIs l a w := by
  have k1 := (l.getD (a + 1) 0).toNat_lt
  have k2 := (l.getD (a + 2) 0).toNat_lt
  have k3 := (l.getD (a + 3) 0).toNat_lt
  have hd := dec_at l a
  rw [← Lib.slow_F4 _ _ _ _ _ (by omega) k1 k2 k3 (by omega)] at hd
  cases h1 : wi l (a + 1) 128 143 with
  | false =>
    have f1 := wi_false h1
    refine one_stray l a _ rfl w (hd.trans ?_) (one_D1s1 l hl a ha _ rfl hc w h1)
    unfold Lib.slowN
    repeat' split
    all_goals first | rfl | (exfalso; omega)
  | true =>
  have t1 := wi_true h1
  cases h2 : wi l (a + 2) 128 191 with
  | false =>
    have f2 := wi_false h2
    refine one_stray l a _ rfl w (hd.trans ?_) (one_D1s2 l hl a ha _ rfl hc w h1 h2)
    unfold Lib.slowN
    repeat' split
    all_goals first | rfl | (exfalso; omega)
  | true =>
  have t2 := wi_true h2
  cases h3 : wi l (a + 3) 128 191 with
  | false =>
    have f3 := wi_false h3
    refine one_stray l a _ rfl w (hd.trans ?_) (one_D1s3 l hl a ha _ rfl hc w h1 h2 h3)
    unfold Lib.slowN
    repeat' split
    all_goals first | rfl | (exfalso; omega)
  | true =>
  have t3 := wi_true h3
  refine one_rune l a (vv ((l.getD a 0).toNat % 8) l a 3) 4 w (hd.trans ?_) (.inl (by decide)) (one_D1r l hl a ha _ rfl hc w h1 h2 h3)
  unfold Lib.slowN
  repeat' split
  all_goals first | (exfalso; omega) | skip
  all_goals (refine Prod.ext ?_ rfl; simp only [vv, Nat.add_zero, show a + 1 + 1 = a + 2 from rfl, show a + 1 + 2 = a + 3 from rfl] <;> omega)
theorem one_is_D2 (l : List UInt8) (hl : l.length ≤ 2305843009213693952) (a : Nat) (ha : a < l.length) (hc : (241 ≤ (l.getD a 0).toNat ∧ (l.getD a 0).toNat ≤ 243)) (w : World) : OneIs l a w := by
  have k1 := (l.getD (a + 1) 0).toNat_lt
  have k2 := (l.getD (a + 2) 0).toNat_lt
  have k3 := (l.getD (a + 3) 0).toNat_lt
  have hd := dec_at l a
  rw [← Lib.slow_F1 _ _ _ _ _ (by omega) k1 k2 k3 (by omega)] at hd
  cases h1 : wi l (a + 1) 128 191 with
  | false =>
    have f1 := wi_false h1
    refine one_stray l a _ rfl w (hd.trans ?_) (one_D2s1 l hl a ha _ rfl hc w h1)
    unfold Lib.slowN
    repeat' split
    all_goals first | rfl | (exfalso; omega)
  | true =>
  have t1 := wi_true h1
  cases h2 : wi l (a + 2) 128 191 with
  | false =>
    have f2 := wi_false h2
    refine one_stray l a _ rfl w (hd.trans ?_) (one_D2s2 l hl a ha _ rfl hc w h1 h2)
    unfold Lib.slowN
    repeat' split
    all_goals first | rfl | (exfalso; omega)
  | true =>
  have t2 := wi_true h2
  cases h3 : wi l (a + 3) 128 191 with
  | false =>
    have f3 := wi_false h3
    refine one_stray l a _ rfl w (hd.trans ?_) (one_D2s3 l hl a ha _ rfl hc w h1 h2 h3)
    unfold Lib.slowN
    repeat' split
    all_goals first | rfl | (exfalso; omega)
  | true =>
  have t3 := wi_true h3
  refine one_rune l a (vv ((l.getD a 0).toNat % 8) l a 3) 4 w (hd.trans ?_) (.inl (by decide)) (one_D2r l hl a ha _ rfl hc w h1 h2 h3)
  unfold Lib.slowN
  repeat' split
  all_goals first | (exfalso; omega) | skip
  all_goals (refine Prod.ext ?_ rfl; simp only [vv, Nat.add_zero, show a + 1 + 1 = a + 2 from rfl, show a + 1 + 2 = a + 3 from rfl] <;> omega)
theorem one_calls (l : List UInt8) (hl : l.length ≤ 2305843009213693952) (a : Nat) (ha : a < l.length) (w : World) : OneIs l a w := by
  have hb := (l.getD a 0).toNat_lt
  by_cases hA : (l.getD a 0).toNat < 128
  · exact one_rune l a _ 1 w ((dec_at l a).trans (Lib.decodeN_ascii _ _ _ _ _ hA)) (.inr (by omega)) (one_A l hl a ha _ rfl hA w)
  · by_cases hE : (l.getD a 0).toNat ≤ 193
    · exact one_stray l a _ rfl w ((dec_at l a).trans (Lib.bad_eq _ _ _ _ _ hb (by unfold Lib.firstT; rw [if_neg (by omega), if_pos (by omega)]))) (one_E1 l hl a ha _ rfl ⟨by omega, hE⟩ w)
    · by_cases hE2 : 245 ≤ (l.getD a 0).toNat
      · exact one_stray l a _ rfl w ((dec_at l a).trans (Lib.bad_eq _ _ _ _ _ hb (by unfold Lib.firstT; rw [if_neg (by omega), if_neg (by omega), if_neg (by omega), if_neg (by omega), if_neg (by omega), if_neg (by omega), if_neg (by omega), if_neg (by omega), if_neg (by omega), if_neg (by omega)]))) (one_E2 l hl a ha _ rfl hE2 w)
      · by_cases hB : (l.getD a 0).toNat ≤ 223
        · exact one_is_B l hl a ha ⟨by omega, hB⟩ w
        · by_cases hC0 : (l.getD a 0).toNat = 224
          · exact one_is_C0 l hl a ha hC0 w
          · by_cases hC1 : (l.getD a 0).toNat = 237
            · exact one_is_C1 l hl a ha hC1 w
            · by_cases hC2 : (l.getD a 0).toNat ≤ 239
              · exact one_is_C2 l hl a ha (by omega) w
              · by_cases hD0 : (l.getD a 0).toNat = 240
                · exact one_is_D0 l hl a ha hD0 w
                · by_cases hD1 : (l.getD a 0).toNat = 244
                  · exact one_is_D1 l hl a ha hD1 w
                  · exact one_is_D2 l hl a ha ⟨by omega, by omega⟩ w
end Go.Proofs.YtjfnaedcdmmigaaDoor

namespace Go.Proofs.YtjfnaedcdmmigaaDoor
open Go.RowKit
set_option linter.unusedSimpArgs false
set_option linter.unusedVariables false

def nums (l : List UInt8) : List Nat := (tk l).map tokNum
def ic (xs : List Nat) : List Value := xs.map fun n : Nat => Value.int .i64 (n : Int)
theorem ic_length (xs : List Nat) : (ic xs).length = xs.length := by simp [ic]
theorem ic_snoc (xs : List Nat) (n : Nat) : ic (xs ++ [n]) = ic xs ++ [.int .i64 (n : Int)] := by simp [ic]
/-- A list of numbers in memory. -/
def NumsAt (w : World) (v : Value) (xs : List Nat) : Prop :=
  ∃ p cap, v = .slice p xs.length cap ∧ (xs ≠ [] → ∃ g, p = some ⟨g, 0, none⟩ ∧ g < w.heap.size ∧ ∀ j, j < xs.length → w.cell? ⟨g, j, none⟩ = some (.int .i64 ((xs.getD j 0 : Nat) : Int)))
theorem intInfo : ∃ i, Tryd.prog.info? 3 = some i ∧ i.zero = some (.int .i64 0) ∧ i.size = 1 ∧ i.bytes = 8 := by
  have e : (Tryd.prog.info? 3).map (fun i => (i.zero, i.size, i.bytes)) = some (some (.int .i64 0), 1, 8) := by kernel_rfl
  cases hq : Tryd.prog.info? 3 with
  | none => rw [hq] at e; cases e
  | some i =>
    rw [hq] at e
    simp only [Option.map_some, Option.some.injEq, Prod.mk.injEq] at e
    exact ⟨i, rfl, e.1, e.2.1, e.2.2⟩
/-- A slice of numbers that the call owns. -/
structure NBuf (w0 : World) (v : Value) (xs : List Nat) (w : World) : Prop where
  own : w.ownsRow w0.heap.size 3 1 v xs.length (ic xs)
  below : Below w0.heap.size w0 w
theorem NBuf.numsAt {w0 w : World} {v : Value} {xs : List Nat} (h : NBuf w0 v xs w) : NumsAt w v xs := by
  have h0 := h.own
  obtain ⟨h1, h2⟩ := h0
  rcases h2 with ⟨rfl, h3⟩ | ⟨g, cap, cur, rfl, hB, hg, hc, hm, hs, ht⟩
  · refine ⟨none, 0, by rw [h3], fun hx => absurd (List.eq_nil_of_length_eq_zero h3) hx⟩
  · refine ⟨some ⟨g, 0, none⟩, cap, rfl, fun _ => ⟨g, rfl, (Array.getElem?_eq_some_iff.1 hg).1, fun j hj => ?_⟩⟩
    have := h.own.cells (g := g) rfl j (.int .i64 ((xs.getD j 0 : Nat) : Int)) (by simp [ic, hj])
    rw [show (⟨g, 0, none⟩ : Addr).add j = ⟨g, j, none⟩ by unfold Addr.add; split <;> simp_all] at this
    exact this
theorem wpList_append_n {ops : Array Oper} {rest : List Oper} {o : Oper} {a : Act} {Q : Exit → Act → World → Prop} (hgd : o.guard = none) (s x : Operand)
    (ho : o.op = .call { callee := .builtin .append, args := #[s, x], argTypes := #[141, 141] })
    (w0 : World) (xs : List Nat) (v : Value) (hs : a.eval s = v) (wr : World) (n : Nat) (hb : NBuf w0 v xs wr)
    (hx : a.eval x = .slice (some ⟨wr.heap.size, 0, none⟩) 1 1) (hlen : xs.length + 1 ≤ 1099511627776)
    (h : ∀ v' w', NBuf w0 v' (xs ++ [n]) w' → wpList Tryd.prog ops Q rest (a.put o.dst v') w') : wpList Tryd.prog ops Q (o :: rest) a (wr.alloc (.cells #[.int .i64 (n : Int)] 3)) := by
  obtain ⟨i, hi, hz, h1, h2⟩ := intInfo
  have hzr := hb.below.size
  refine wpList_append_own _ hgd s x 141 ho w0.heap.size 3 i (.int .i64 0) 1 8 Tryd.underlying141 hi hz h1 h2 rfl (by decide) v xs.length (ic xs) hs (hb.own.alloc _) ⟨wr.heap.size, 0, none⟩ 1 1 [.int .i64 (n : Int)] hx rfl ?_ ?_ (by unfold maxLen; omega) (by omega) (by rw [World.size_alloc]; omega) ?_
  · intro j u hj
    have hj0 : j = 0 := by
      have := (List.getElem?_eq_some_iff.1 hj).1; simp at this; omega
    subst hj0
    simp at hj
    subst hj
    rw [show (⟨wr.heap.size, 0, none⟩ : Addr).add 0 = ⟨wr.heap.size, 0, none⟩ by rfl]
    exact (cell_of_row _ _ _ _ _ _ (al1 wr (.cells #[.int .i64 (n : Int)] 3)))
  · intro u hu; simp at hu; subst hu; rfl
  · intro v' w' hown hg _
    refine h v' w' ⟨?_, ?_⟩
    · rw [List.length_append, ic_snoc]; exact hown
    · have hbA := hb.below.alloc hzr (.cells #[.int .i64 (n : Int)] 3)
      refine hbA.trans ⟨hg.os, hg.tape, hg.output, hg.size, fun k hk => hg.block k (by rw [World.size_alloc]; omega) ?_⟩
      intro hc
      have := (hb.own.lt k hc.symm).1
      omega
end Go.Proofs.YtjfnaedcdmmigaaDoor

namespace Go.Proofs.YtjfnaedcdmmigaaDoor
open Go.RowKit
set_option linter.unusedSimpArgs false
set_option linter.unusedVariables false

set_option maxHeartbeats 1000000 in
theorem numbers_calls (l : List UInt8) (hl : l.length ≤ 1000000000) (w : World) :
    Calls Tryd.prog 95 #[.string (str l)] w fun e w' => ∃ v, e = .returned v ∧ NumsAt w' v (nums l) ∧ Below w.heap.size w w' := by
  have hone := fun a ha w => one_calls l (by omega) a ha w
  have Hone := hide hone
  have hsz : (str l).size = l.length := str_size l
  clear hone
  go_enter Tryd.func95, Tryd.ntmps95
  go_wp2
  go_loopw [3, 4] (fun v i wr => ∃ (pos : Nat) (dn : List Tok), pos ≤ l.length ∧ i = .int .i64 (pos : Int) ∧ Hid (tk l = dn ++ tk (l.drop pos)) ∧ dn.length ≤ pos ∧ NBuf w v (dn.map tokNum) wr) (fun _ i _ => l.length - (intOf i).toNat)
  case atStart => exact ⟨0, [], by omega, rfl, by show tk l = _; simp, by simp, ⟨World.ownsRow_nil _ _ _ _, Below.refl _ _⟩⟩
  case round =>
    obtain ⟨pos, dn, hp, rfl, hT, hdn, hB⟩ := hrel
    by_cases hlt : pos < l.length
    · have hd : decide (pos < l.length) = true := by simpa using hlt
      have hne : l.drop pos ≠ [] := by simp; omega
      have hT2 : tk l = (dn ++ [headTok (l.drop pos)]) ++ tk (l.drop (pos + (Lib.decodeL (l.drop pos)).2)) := by
        rw [unhide hT, tk_cons _ hne, List.drop_drop]; simp
      have hw1 := Lib.decodeL_width (l.drop pos)
      have hw2 := Lib.decodeL_le (l.drop pos) hne
      rw [List.length_drop] at hw2
      have hO := unhide Hone pos hlt
      unfold OneIs at hO
      have hmap : (dn ++ [headTok (l.drop pos)]).map tokNum = dn.map tokNum ++ [tokNum (headTok (l.drop pos))] := by simp
      generalize hwd : (Lib.decodeL (l.drop pos)).2 = wd at *
      generalize hht : headTok (l.drop pos) = ht at *
      generalize tokNum ht = N at *
      have HO := hide hO
      have HT2 := hide hT2
      have Hmap := hide hmap
      clear hO hT2 hmap hwd hht hT hne
      go_wp2_with fail
      refine (unhide HO _).mono ?_
      rintro e w' ⟨rfl, rfl⟩
      go_wp2_with (at_builtin; refine wpList_append_n rfl (.tmp 17) (.tmp 19) rfl w (dn.map tokNum) _ rfl w' N hB rfl (by rw [List.length_map]; omega) ?_; intro v2 w2 hB2)
      go_roundw
      case rel => exact ⟨pos + wd, dn ++ [ht], by omega, by go_num, HT2, by simp; omega, by rw [unhide Hmap]; exact hB2⟩
      case measure => simp [intOf]; omega
    · have hd : decide (pos < l.length) = false := by simpa using hlt
      have hT' := unhide hT
      rw [List.drop_of_length_le (by omega), tk_nil, List.append_nil] at hT'
      have hN : nums l = dn.map tokNum := by rw [nums, hT']
      have HN := hide hN
      clear hT hT' hN
      go_wp2
      go_ret
      exact ⟨_, rfl, by rw [unhide HN]; exact hB.numsAt, hB.below⟩
theorem nums_len (l : List UInt8) : (nums l).length = (tk l).length := by simp [nums]
theorem nums_le (l : List UInt8) : (nums l).length ≤ l.length := by
  have h := good_len _ (good_of_tk l)
  rw [flat_of_tk] at h
  rw [nums_len]; exact h
theorem NumsAt.below {w w' : World} {v : Value} {xs : List Nat} (h : NumsAt w v xs) (hb : Below w.heap.size w w') : NumsAt w' v xs := by
  obtain ⟨p, cap, rfl, hp⟩ := h
  refine ⟨p, cap, rfl, fun hx => ?_⟩
  obtain ⟨g, rfl, hg, hc⟩ := hp hx
  exact ⟨g, rfl, Nat.lt_of_lt_of_le hg hb.size, fun j hj => by rw [hb.cell (p := ⟨g, j, none⟩) hg]; exact hc j hj⟩
end Go.Proofs.YtjfnaedcdmmigaaDoor
