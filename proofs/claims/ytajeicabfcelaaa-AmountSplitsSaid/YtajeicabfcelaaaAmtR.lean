/-
  WHAT THE DOCUMENT'S OWN Split RETURNS: bit by bit.
-/
import Derived.Test.YtajeicabfcelaaaAmtS
namespace Go.Proofs.Ytajeicabfcelaaa
open Go.RowKit
set_option linter.unusedSimpArgs false
set_option linter.unusedVariables false

/-- So far: of the number's highest bits. -/
structure Far (part whole m q r : Nat) : Prop where
  sum : q * whole + r = m * part
  lt : r < whole
theorem Far.le {part whole m q r : Nat} (h : Far part whole m q r) (hp : part < whole) : q ≤ m := by
  refine Nat.le_of_mul_le_mul_right (c := whole) ?_ (by omega)
  have h1 := h.sum
  have h2 : m * part ≤ m * whole := Nat.mul_le_mul_left m (Nat.le_of_lt hp)
  generalize q * whole = a at *
  generalize m * whole = b at *
  generalize m * part = c at *
  omega
theorem Far.dbl1 {part whole m q r : Nat} (h : Far part whole m q r) (hr : whole - r ≤ r) : Far part whole (2 * m) (2 * q + 1) (r - (whole - r)) := by
  refine ⟨?_, by have := h.lt; omega⟩
  have h1 := h.sum
  have h2 := h.lt
  rw [Nat.add_mul, Nat.mul_assoc, Nat.mul_assoc, ← h1]
  generalize q * whole = a at *
  omega
theorem Far.dbl0 {part whole m q r : Nat} (h : Far part whole m q r) (hr : ¬ whole - r ≤ r) : Far part whole (2 * m) (2 * q) (2 * r) := by
  refine ⟨?_, by have := h.lt; omega⟩
  have h1 := h.sum
  rw [Nat.mul_assoc, Nat.mul_assoc, ← h1]
  generalize q * whole = a at *
  omega
theorem Far.add1 {part whole m q r : Nat} (h : Far part whole m q r) (hp : part < whole) (hr : whole - part ≤ r) : Far part whole (m + 1) (q + 1) (r - (whole - part)) := by
  refine ⟨?_, by have := h.lt; omega⟩
  have h1 := h.sum
  have h2 := h.lt
  rw [Nat.add_mul, Nat.add_mul, ← h1]
  generalize q * whole = a at *
  omega
theorem Far.add0 {part whole m q r : Nat} (h : Far part whole m q r) (hr : ¬ whole - part ≤ r) : Far part whole (m + 1) q (r + part) := by
  refine ⟨?_, by omega⟩
  have h1 := h.sum
  rw [Nat.add_mul, ← h1]
  generalize q * whole = a at *
  omega
theorem Far.done {part whole m q r : Nat} (h : Far part whole m q r) : m * part / whole = q := by
  rw [← h.sum, Nat.mul_comm, Nat.mul_add_div (by have := h.lt; omega), Nat.div_eq_of_lt h.lt]; rfl
theorem half_step (n i : Nat) : n / 2 ^ i = 2 * (n / 2 ^ (i + 1)) + n / 2 ^ i % 2 := by
  rw [Nat.pow_succ, ← Nat.div_div_eq_div_mul]; omega
theorem dbl_facts {part whole m q r : Nat} (h : Far part whole m q r) (hp : part < whole) (hw : whole < 18446744073709551616) (hm : 2 * m < 18446744073709551616) :
    ∃ D q2 q3 r3 : Nat, IntKind.u64.wrap ((whole : Int) - (r : Int)) = (D : Int) ∧ IntKind.u64.wrap (2 * (q : Int)) = (q2 : Int) ∧ Hid (Far part whole (2 * m) q3 r3) ∧
      ((decide (D ≤ r) = true ∧ IntKind.u64.wrap ((q2 : Int) + 1) = (q3 : Int) ∧ IntKind.u64.wrap ((r : Int) - (D : Int)) = (r3 : Int)) ∨ (decide (D ≤ r) = false ∧ q2 = q3 ∧ IntKind.u64.wrap (2 * (r : Int)) = (r3 : Int))) := by
  have hl := h.lt
  have hq := h.le hp
  by_cases hr : whole - r ≤ r
  · refine ⟨whole - r, 2 * q, 2 * q + 1, r - (whole - r), ?_, ?_, h.dbl1 hr, .inl ⟨by simpa using hr, ?_, ?_⟩⟩ <;> (try rw [IntKind.wrap_u64]) <;> omega
  · refine ⟨whole - r, 2 * q, 2 * q, 2 * r, ?_, ?_, h.dbl0 hr, .inr ⟨by simpa using hr, rfl, ?_⟩⟩ <;> (try rw [IntKind.wrap_u64]) <;> omega
theorem add_facts {part whole m q r : Nat} (h : Far part whole m q r) (hp : part < whole) (hw : whole < 18446744073709551616) (hm : m + 1 < 18446744073709551616) :
    ∃ D q4 r4 : Nat, IntKind.u64.wrap ((whole : Int) - (part : Int)) = (D : Int) ∧ Hid (Far part whole (m + 1) q4 r4) ∧
      ((decide (D ≤ r) = true ∧ IntKind.u64.wrap ((q : Int) + 1) = (q4 : Int) ∧ IntKind.u64.wrap ((r : Int) - (D : Int)) = (r4 : Int)) ∨ (decide (D ≤ r) = false ∧ q = q4 ∧ IntKind.u64.wrap ((r : Int) + (part : Int)) = (r4 : Int))) := by
  have hl := h.lt
  have hq := h.le hp
  by_cases hr : whole - part ≤ r
  · refine ⟨whole - part, q + 1, r - (whole - part), ?_, h.add1 hp hr, .inl ⟨by simpa using hr, ?_, ?_⟩⟩ <;> (try rw [IntKind.wrap_u64]) <;> omega
  · refine ⟨whole - part, q, r + part, ?_, h.add0 hr, .inr ⟨by simpa using hr, rfl, ?_⟩⟩ <;> (try rw [IntKind.wrap_u64]) <;> omega
set_option maxHeartbeats 2000000 in
set_option maxRecDepth 100000 in
theorem refSplit_calls (n part whole : Nat) (hn : n < 18446744073709551616) (hp : part < 18446744073709551616) (hw : whole < 18446744073709551616) (w : World) :
    Calls Try.prog 14 #[.int .u64 (n : Int), .int .u64 (part : Int), .int .u64 (whole : Int)] w fun e w' => e = .returned (.tuple #[.int .u64 ((pSplit n part whole).1 : Int), .int .u64 ((pSplit n part whole).2 : Int)]) ∧ w' = w := by
  unfold pSplit
  by_cases h0 : whole ≤ part
  · rw [if_pos h0]
    have d2 : decide (whole ≤ part) = true := by simpa using h0
    go_enter Try.func14, Try.ntmps14
    go_wp2
    go_ret2
    exact ⟨rfl, rfl⟩
  · rw [if_neg h0]
    have d2 : decide (whole ≤ part) = false := by simpa using h0
    obtain ⟨S, R, hS, hR, fin⟩ : ∃ S R, Hid (n * part / whole = S) ∧ Hid (n - S = R) ∧ IntKind.u64.wrap ((n : Int) - (S : Int)) = (R : Int) := ⟨_, _, rfl, rfl, by
      have := share_le n part whole (by omega)
      generalize n * part / whole = S at *
      rw [IntKind.wrap_u64]; omega⟩
    rw [unhide hS, unhide hR]
    have Hp : Hid (part < whole) := hide (by omega)
    have Hn := hide hn
    have Hw := hide hw
    clear h0 hn hp hw
    go_enter Try.func14, Try.ntmps14
    go_wp2
    go_loopw [8, 9, 10] (fun a b c wr => wr = w ∧ ∃ k q r : Nat, k ≤ 64 ∧ a = .int .u64 (q : Int) ∧ b = .int .u64 (r : Int) ∧ c = .int .i64 (63 - (k : Int)) ∧ Far part whole (n / 2 ^ (64 - k)) q r) (fun _ _ c _ => (intOf c + 1).toNat)
    case atStart =>
      refine ⟨rfl, 0, 0, 0, by omega, rfl, rfl, by go_num, ⟨?_, by have := unhide Hp; omega⟩⟩
      rw [Nat.div_eq_of_lt (unhide Hn)]; simp
    case round =>
      obtain ⟨rfl, k, q, r, hk, rfl, rfl, rfl, F⟩ := hrel
      by_cases hlt : k < 64
      · obtain ⟨i, hi, ei⟩ : ∃ i : Nat, Hid (63 - k = i) ∧ (63 : Int) - (k : Int) = (i : Int) := ⟨_, rfl, by omega⟩
        have hi63 : i ≤ 63 := by have := unhide hi; omega
        have e1 : 64 - k = i + 1 := by have := unhide hi; omega
        rw [e1] at F
        have hst := half_step n i
        have hle : n / 2 ^ i ≤ n := Nat.div_le_self _ _
        have hn := unhide Hn
        obtain ⟨D, q2, q3, r3, f1, f2, HF3, hc⟩ := dbl_facts F (unhide Hp) (unhide Hw) (by omega)
        obtain ⟨M, hM⟩ : ∃ M, Hid (n / 2 ^ i = M) := ⟨_, rfl⟩
        have fM : (n : Int) / 2 ^ i = (M : Int) := by rw [← unhide hM]; push_cast; rfl
        rw [unhide hM] at hst hle
        generalize n / 2 ^ (i + 1) = m at *
        obtain ⟨D', q4, r4, g1, HF4, hc4⟩ : ∃ D' q4 r4 : Nat, IntKind.u64.wrap ((whole : Int) - (part : Int)) = (D' : Int) ∧ Hid (Far part whole M q4 r4) ∧
            ((M % 2 = 0 ∧ q3 = q4 ∧ r3 = r4) ∨ (M % 2 = 1 ∧ ((decide (D' ≤ r3) = true ∧ IntKind.u64.wrap ((q3 : Int) + 1) = (q4 : Int) ∧ IntKind.u64.wrap ((r3 : Int) - (D' : Int)) = (r4 : Int)) ∨ (decide (D' ≤ r3) = false ∧ q3 = q4 ∧ IntKind.u64.wrap ((r3 : Int) + (part : Int)) = (r4 : Int))))) := by
          by_cases hb : M % 2 = 0
          · have e : M = 2 * m := by omega
            have hp := unhide Hp
            have hw := unhide Hw
            exact ⟨whole - part, q3, r3, by rw [IntKind.wrap_u64]; omega, by rw [e]; exact HF3, .inl ⟨hb, rfl, rfl⟩⟩
          · have e : M = 2 * m + 1 := by omega
            obtain ⟨D', q4, r4, g1, h4, hc⟩ := add_facts (unhide HF3) (unhide Hp) (unhide Hw) (by omega)
            exact ⟨D', q4, r4, g1, by rw [e]; exact h4, .inr ⟨by omega, hc⟩⟩
        have hkk : Hid (k < 64) := hide hlt
        have Hst := hide hst
        have Hle := hide hle
        have Hhn := hide hn
        have hre : Hid (64 - (k + 1) = i) := hide (by omega)
        have Hkk : Hid ((i : Int) = 63 - (k : Int)) := hide ei.symm
        clear F hst hle hn hk hlt e1 HF3
        rw [ei]
        have hd0 : decide ((0 : Int) ≤ (i : Int)) = true := by simp
        clear ei
        rcases hc with ⟨c1, c2, c3⟩ | ⟨c1, rfl, c3⟩ <;> rcases hc4 with ⟨b1, rfl, rfl⟩ | ⟨b1, ⟨b2, b3, b4⟩ | ⟨b2, rfl, b4⟩⟩
        · have bb : ((M : Int) % 2 == 1) = false := by first | (simp; done) | (simp; omega)
          clear b1
          go_wp2
          refine ⟨⟨trivial, k + 1, _, _, by have := unhide hkk; omega, rfl, rfl, by rw [unhide Hkk]; go_num, by rw [unhide hre, unhide hM]; exact unhide HF4⟩, ?_⟩
          first
            | (simp [intOf]; done)
            | (simp [intOf]; omega)
        · have bb : ((M : Int) % 2 == 1) = true := by first | (simp; done) | (simp; omega)
          clear b1
          go_wp2
          refine ⟨⟨trivial, k + 1, _, _, by have := unhide hkk; omega, rfl, rfl, by rw [unhide Hkk]; go_num, by rw [unhide hre, unhide hM]; exact unhide HF4⟩, ?_⟩
          first
            | (simp [intOf]; done)
            | (simp [intOf]; omega)
        · have bb : ((M : Int) % 2 == 1) = true := by first | (simp; done) | (simp; omega)
          clear b1
          go_wp2
          refine ⟨⟨trivial, k + 1, _, _, by have := unhide hkk; omega, rfl, rfl, by rw [unhide Hkk]; go_num, by rw [unhide hre, unhide hM]; exact unhide HF4⟩, ?_⟩
          first
            | (simp [intOf]; done)
            | (simp [intOf]; omega)
        · have bb : ((M : Int) % 2 == 1) = false := by first | (simp; done) | (simp; omega)
          clear b1
          go_wp2
          refine ⟨⟨trivial, k + 1, _, _, by have := unhide hkk; omega, rfl, rfl, by rw [unhide Hkk]; go_num, by rw [unhide hre, unhide hM]; exact unhide HF4⟩, ?_⟩
          first
            | (simp [intOf]; done)
            | (simp [intOf]; omega)
        · have bb : ((M : Int) % 2 == 1) = true := by first | (simp; done) | (simp; omega)
          clear b1
          go_wp2
          refine ⟨⟨trivial, k + 1, _, _, by have := unhide hkk; omega, rfl, rfl, by rw [unhide Hkk]; go_num, by rw [unhide hre, unhide hM]; exact unhide HF4⟩, ?_⟩
          first
            | (simp [intOf]; done)
            | (simp [intOf]; omega)
        · have bb : ((M : Int) % 2 == 1) = true := by first | (simp; done) | (simp; omega)
          clear b1
          go_wp2
          refine ⟨⟨trivial, k + 1, _, _, by have := unhide hkk; omega, rfl, rfl, by rw [unhide Hkk]; go_num, by rw [unhide hre, unhide hM]; exact unhide HF4⟩, ?_⟩
          first
            | (simp [intOf]; done)
            | (simp [intOf]; omega)
      · have hk64 : k = 64 := by omega
        have hSq : S = q := by
          rw [hk64] at F
          have := F.done
          rw [Nat.sub_self, Nat.pow_zero, Nat.div_one, unhide hS] at this
          exact this
        have e63 : (63 : Int) - (k : Int) = -1 := by omega
        rw [e63]
        subst hSq
        clear e63
        clear hlt hk64 hk F
        go_wp2
        go_ret2
        exact ⟨rfl, rfl⟩
end Go.Proofs.Ytajeicabfcelaaa
