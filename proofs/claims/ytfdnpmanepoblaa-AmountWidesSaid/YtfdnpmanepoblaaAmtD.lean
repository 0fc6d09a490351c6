/-
  WHAT THE DOCUMENT'S OWN WIDE NUMBERS' Of, Plus, Less RETURN: four digits of base 2^32, the lowest first.
-/
import Derived.Test.YtfdnpmanepoblaaAmtC
import Derived.Test.YtfdnpmanepoblaaQuietRow
import Derived.Test.YtfdnpmanepoblaaQuietMid
import Derived.Test.YtfdnpmanepoblaaStoreV
namespace Go.Proofs.Ytfdnpmanepoblaa
open Go.RowKit
set_option linter.unusedSimpArgs false
set_option linter.unusedVariables false

/-- The digits of a number. -/
def r4 (a b c d : Nat) : Array Value := #[.int .u64 (a : Int), .int .u64 (b : Int), .int .u64 (c : Int), .int .u64 (d : Int)]
def rv (n : Nat) : Array Value := r4 (n % 4294967296) (n / 4294967296 % 4294967296) (n / 18446744073709551616 % 4294967296) (n / 79228162514264337593543950336)
theorem rv_info (n : Nat) : (Try.prog.info? 31).map (·.size) = some (rv n).size := (show (Try.prog.info? 31).map (·.size) = some 4 by kernel_rfl)
theorem r4_one (a b c d : Nat) : (r4 a b c d).all (·.oneCell') = true := by simp [r4, Value.oneCell']
theorem rv_one (n : Nat) : (rv n).all (·.oneCell') = true := r4_one _ _ _ _
theorem rv_digits (n : Nat) (h : n < wmax) : ∃ a b c d : Nat, rv n = r4 a b c d ∧ a < 4294967296 ∧ b < 4294967296 ∧ c < 4294967296 ∧ d < 4294967296 ∧ Hid (n = a + 4294967296 * b + 18446744073709551616 * c + 79228162514264337593543950336 * d) := by
  unfold wmax at h
  refine ⟨_, _, _, _, rfl, ?_, ?_, ?_, ?_, ?_⟩
  · omega
  · omega
  · omega
  · omega
  · refine hide ?_
    omega
theorem rv_eq (a b c d : Nat) (ha : a < 4294967296) (hb : b < 4294967296) (hc : c < 4294967296) (hd : d < 4294967296) : rv (a + 4294967296 * b + 18446744073709551616 * c + 79228162514264337593543950336 * d) = r4 a b c d := by
  unfold rv
  have e1 : (a + 4294967296 * b + 18446744073709551616 * c + 79228162514264337593543950336 * d) % 4294967296 = a := by omega
  have e2 : (a + 4294967296 * b + 18446744073709551616 * c + 79228162514264337593543950336 * d) / 4294967296 % 4294967296 = b := by omega
  have e3 : (a + 4294967296 * b + 18446744073709551616 * c + 79228162514264337593543950336 * d) / 18446744073709551616 % 4294967296 = c := by omega
  have e4 : (a + 4294967296 * b + 18446744073709551616 * c + 79228162514264337593543950336 * d) / 79228162514264337593543950336 = d := by omega
  rw [e1, e2, e3, e4]
set_option maxHeartbeats 400000 in
theorem rof_calls (h l : Nat) (hh : h < 18446744073709551616) (hl : l < 18446744073709551616) (w : World) :
    Calls Try.prog 16 #[.int .u64 (h : Int), .int .u64 (l : Int)] w fun e w' => e = .returned (.agg (rv (h * 18446744073709551616 + l))) ∧ Below w.heap.size w w' := by
  obtain ⟨a, b, c, d, ea, eb, ec, ed, er⟩ : ∃ a b c d : Nat, (l : Int) % 4294967296 = (a : Int) ∧ (l : Int) / 4294967296 = (b : Int) ∧ (h : Int) % 4294967296 = (c : Int) ∧ (h : Int) / 4294967296 = (d : Int) ∧ Hid (rv (h * 18446744073709551616 + l) = r4 a b c d) := by
    refine ⟨l % 4294967296, l / 4294967296, h % 4294967296, h / 4294967296, by omega, by omega, by omega, by omega, ?_⟩
    have := rv_eq (l % 4294967296) (l / 4294967296) (h % 4294967296) (h / 4294967296) (by omega) (by omega) (by omega) (by omega)
    rw [← this]
    exact congrArg rv (by omega)
  rw [unhide er]
  unfold r4
  go_enter Try.func16, Try.ntmps16
  go_wp2
  exact bodyPost_ret (results_cell_row rfl _ _ w.heap.size _ _ _ _ rfl (al1 w _) Try.underlying31 rfl (show (Try.prog.info? 31).map (·.size) = some 4 by kernel_rfl)) rfl ⟨rfl, (Below.refl _ _).alloc (Nat.le_refl _) _⟩
set_option maxHeartbeats 400001 in
theorem to_calls (a : Nat) (ha : a < wmax) (w : World) :
    Calls Try.prog 6 #[.agg (wv a)] w fun e w' => e = .returned (.agg (rv a)) ∧ Below w.heap.size w w' := by
  unfold wmax at ha
  obtain ⟨h, l, rfl, hh, hl⟩ : ∃ h l, a = h * 18446744073709551616 + l ∧ h < 18446744073709551616 ∧ l < 18446744073709551616 := ⟨a / 18446744073709551616, a % 18446744073709551616, by omega, by omega, by omega⟩
  rw [wv_eq h l hl]
  have HC := hide (fun w => rof_calls h l hh hl w)
  have hi := rv_info (h * 18446744073709551616 + l)
  have ho := rv_one (h * 18446744073709551616 + l)
  generalize rv (h * 18446744073709551616 + l) = R at *
  clear ha
  go_enter Try.func6, Try.ntmps6
  go_wp2_with fail
  refine (unhide HC _).mono ?_
  rintro e w2 ⟨rfl, hb⟩
  have hq := Below.at hb (by simp) (al2 w (.cells #[.int .u64 (h : Int), .int .u64 (l : Int)] 25) (.cells #[.int .u64 0, .int .u64 0, .int .u64 0, .int .u64 0] 31)).2
  have hb' : Below w.heap.size w w2 := (bel2 w _ _).trans (hb.mono (by simp; omega))
  have hz : (#[.int .u64 0, .int .u64 0, .int .u64 0, .int .u64 0] : Array Value).size = R.size := by
    have h4 := (show (Try.prog.info? 31).map (·.size) = some 4 by kernel_rfl)
    rw [hi] at h4
    exact (Option.some.inj h4).symm
  have Hq := hide hq
  have Hb := hide hb'
  clear hb hq hb'
  go_wp2_with (refine wpList_store_row rfl 31 (.tmp 2) (.tmp 7) rfl (w.heap.size + 1) _ rfl rfl 31 _ (unhide Hq) hi hz ho ?_)
  exact bodyPost_ret (results_cell_row rfl _ _ (w.heap.size + 1) _ _ _ _ rfl (setRow_heap _ _ _ _ _ _ (unhide Hq)) Try.underlying31 rfl hi) rfl ⟨rfl, below_setRow (unhide Hb) (by omega) _⟩
/-- A digit of a sum, in the walk's spelling. -/
structure Dig (a b c s c' t S : Nat) : Prop where
  one : IntKind.u64.wrap ((a : Int) + (b : Int)) = (t : Int)
  two : IntKind.u64.wrap ((t : Int) + (c : Int)) = (S : Int)
  rem : (S : Int) % 4294967296 = (s : Int)
  quo : (S : Int) / 4294967296 = (c' : Int)
  small : IntKind.u64.wrap (c' : Int) = (c' : Int)
theorem dig_facts (a b c : Nat) (ha : a < 4294967296) (hb : b < 4294967296) (hc : c ≤ 1) : ∃ s c' t S : Nat, Dig a b c s c' t S ∧ s < 4294967296 ∧ c' ≤ 1 ∧ a + b + c = s + 4294967296 * c' := by
  refine ⟨(a + b + c) % 4294967296, (a + b + c) / 4294967296, a + b, a + b + c, ⟨?_, ?_, by omega, by omega, ?_⟩, by omega, by omega, by omega⟩ <;> (rw [IntKind.wrap_u64]; omega)
theorem plus_digits (a0 a1 a2 a3 b0 b1 b2 b3 : Nat) (ha0 : a0 < 4294967296) (ha1 : a1 < 4294967296) (ha2 : a2 < 4294967296) (ha3 : a3 < 4294967296) (hb0 : b0 < 4294967296) (hb1 : b1 < 4294967296) (hb2 : b2 < 4294967296) (hb3 : b3 < 4294967296) :
    ∃ s0 s1 s2 s3 c1 c2 c3 c4 t0 t1 t2 t3 S0 S1 S2 S3 : Nat, Dig a0 b0 0 s0 c1 t0 S0 ∧ Dig a1 b1 c1 s1 c2 t1 S1 ∧ Dig a2 b2 c2 s2 c3 t2 S2 ∧ Dig a3 b3 c3 s3 c4 t3 S3 ∧
      s0 < 4294967296 ∧ s1 < 4294967296 ∧ s2 < 4294967296 ∧ s3 < 4294967296 ∧
      (a0 + 4294967296 * a1 + 18446744073709551616 * a2 + 79228162514264337593543950336 * a3) + (b0 + 4294967296 * b1 + 18446744073709551616 * b2 + 79228162514264337593543950336 * b3) =
        (s0 + 4294967296 * s1 + 18446744073709551616 * s2 + 79228162514264337593543950336 * s3) + 340282366920938463463374607431768211456 * c4 := by
  obtain ⟨s0, c1, t0, S0, d0, g0, h0, k0⟩ := dig_facts a0 b0 0 ha0 hb0 (by omega)
  obtain ⟨s1, c2, t1, S1, d1, g1, h1, k1⟩ := dig_facts a1 b1 c1 ha1 hb1 h0
  obtain ⟨s2, c3, t2, S2, d2, g2, h2, k2⟩ := dig_facts a2 b2 c2 ha2 hb2 h1
  obtain ⟨s3, c4, t3, S3, d3, g3, h3, k3⟩ := dig_facts a3 b3 c3 ha3 hb3 h2
  refine ⟨s0, s1, s2, s3, c1, c2, c3, c4, t0, t1, t2, t3, S0, S1, S2, S3, d0, d1, d2, d3, g0, g1, g2, g3, ?_⟩
  clear d0 d1 d2 d3
  omega
end Go.Proofs.Ytfdnpmanepoblaa
