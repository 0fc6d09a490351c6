/-
  WHAT math/bits.Div64 RETURNS: the quotient of a number of 128 bits.
-/
import Derived.Test.YtajeicabfcelaaaAmtB
import Derived.Test.YtajeicabfcelaaaDivP
import Derived.Shelf.Small.Bits
namespace Go.Proofs
open Go.Shelf
def Try.lays134_ren : Go.Shelf.Ren := ⟨fun | 129 => 29 | 134 => 28 | n => n, fun | 3 => 3 | 4 => 4 | 5 => 5 | 9 => 9 | 46 => 51 | 53 => 22 | n => n, fun | n => n⟩
theorem Try.lays134 : Go.Proofs.Lays.n134 Try.prog Try.lays134_ren := {
  mixed := by kernel_rfl
  f129 := Try.func29.trans (congrArg some (by kernel_rfl))
  f134 := Try.func28.trans (congrArg some (by kernel_rfl))
  t3 := Try.underlying3
  a3 := Try.isAgg3
  z3 := Try.sizeOf3
  v3 := Try.zeroValue3
  t4 := Try.underlying4
  a4 := Try.isAgg4
  z4 := Try.sizeOf4
  v4 := Try.zeroValue4
  t5 := Try.underlying5
  a5 := Try.isAgg5
  z5 := Try.sizeOf5
  v5 := Try.zeroValue5
  t9 := Try.underlying9
  a9 := Try.isAgg9
  z9 := Try.sizeOf9
  v9 := Try.zeroValue9
  t46 := Try.underlying51
  a46 := Try.isAgg51
  z46 := Try.sizeOf51
  v46 := Try.zeroValue51
  t53 := Try.underlying22
  a53 := Try.isAgg22
  z53 := Try.sizeOf22
  v53 := Try.zeroValue22 }
namespace Ytajeicabfcelaaa
open Go.RowKit
set_option linter.unusedSimpArgs false
set_option linter.unusedVariables false
theorem lz64_calls (x : Nat) (hx : x < 18446744073709551616) (w : World) :
    Calls Try.prog 28 #[.int .u64 (x : Int)] w fun e w' => e = .returned (.int .i64 (64 - (Lib.bitLen x : Int))) ∧ w' = w := by
  have := Any.bits_LeadingZeros64 Try.lays134 x w (by omega) (by omega)
  exact this
theorem fin_num (q1 q0 R : Nat) (e : q1 * 4294967296 + q0 = R) (h : R < 18446744073709551616) : IntKind.u64.wrap (IntKind.u64.wrap ((q1 : Int) * 4294967296) + (q0 : Int)) = (R : Int) := by
  rw [IntKind.wrap_u64, IntKind.wrap_u64]
  omega
theorem dec_facts {u u1 y1 y0 q r : Nat} (G : DivP.Guess u u1 y1 y0 q r) (hu : u < y1 * 4294967296 + y0) (hu1 : u1 < 4294967296) (hr : r < 4294967296) (hy1 : y1 < 4294967296) (h : 4294967296 ≤ q ∨ 4294967296 * r + u1 < q * y0) :
    ∃ q' r' : Nat, Hid (DivP.Guess u u1 y1 y0 q' r' ∧ q' < q ∧ q' ≤ 4294967296) ∧ IntKind.u64.wrap ((q : Int) - 1) = (q' : Int) ∧ IntKind.u64.wrap ((r : Int) + (y1 : Int)) = (r' : Int) := by
  obtain ⟨hq1, G'⟩ := G.less hu hu1 h
  have := G.le
  exact ⟨q - 1, r + y1, ⟨G', by omega, by omega⟩, by rw [IntKind.wrap_u64]; omega, by rw [IntKind.wrap_u64]; omega⟩
theorem cmp_facts (q y0 r u1 : Nat) (hq : q < 4294967296) (hy0 : y0 < 4294967296) (hr : r < 4294967296) (hu1 : u1 < 4294967296) :
    ∃ P R S : Nat, IntKind.u64.wrap ((q : Int) * (y0 : Int)) = (P : Int) ∧ IntKind.u64.wrap (4294967296 * (r : Int)) = (R : Int) ∧ IntKind.u64.wrap ((R : Int) + (u1 : Int)) = (S : Int) ∧ Hid (P = q * y0 ∧ S = 4294967296 * r + u1) := by
  have h1 := Lib.half_mul_le (a := q) (b := y0) (by omega) (by omega)
  refine ⟨q * y0, 4294967296 * r, 4294967296 * r + u1, ?_, ?_, ?_, rfl, rfl⟩
  · rw [show ((q : Int) * (y0 : Int)) = ((q * y0 : Nat) : Int) by push_cast; rfl, IntKind.wrap_u64]
    generalize q * y0 = z at *
    omega
  · rw [IntKind.wrap_u64]; omega
  · rw [IntKind.wrap_u64]; omega
theorem start_facts (u u1 y1 y0 : Nat) (h1 : 2147483648 ≤ y1) (h1' : y1 < 4294967296) (h0 : y0 < 4294967296) (hu : u < y1 * 4294967296 + y0) (hu64 : u < 18446744073709551616) (hu1 : u1 < 4294967296) :
    ∃ q r : Nat, IntKind.u64.wrap ((u : Int) / (y1 : Int)) = (q : Int) ∧ IntKind.u64.wrap ((u : Int) - IntKind.u64.wrap ((q : Int) * (y1 : Int))) = (r : Int) ∧ Hid (DivP.Guess u u1 y1 y0 q r ∧ r < 4294967296) := by
  obtain ⟨G0, hr0⟩ := DivP.first u u1 y1 y0 h1 h1' h0 hu hu1
  have hqle := Nat.div_mul_le_self u y1
  refine ⟨u / y1, u - u / y1 * y1, wrap_div u y1 hu64, ?_, G0, by omega⟩
  generalize u / y1 = q at *
  rw [show ((q : Int) * (y1 : Int)) = ((q * y1 : Nat) : Int) by push_cast; rfl]
  generalize q * y1 = z at *
  rw [IntKind.wrap_u64, IntKind.wrap_u64]
  omega
theorem rest_facts (u u1 Y q : Nat) (h : q = (u * 4294967296 + u1) / Y) (hY : 0 < Y) (hY2 : Y < 18446744073709551616) :
    ∃ z : Nat, IntKind.u64.wrap (IntKind.u64.wrap (IntKind.u64.wrap ((u : Int) * 4294967296) + (u1 : Int)) - IntKind.u64.wrap ((q : Int) * (Y : Int))) = (z : Int) ∧ Hid (z = (u * 4294967296 + u1) % Y ∧ z < Y) := by
  have h1 := Nat.div_add_mod (u * 4294967296 + u1) Y
  have h2 := Nat.mod_lt (u * 4294967296 + u1) hY
  rw [← h] at h1
  rw [Nat.mul_comm] at h1
  refine ⟨(u * 4294967296 + u1) % Y, ?_, rfl, h2⟩
  rw [show ((q : Int) * (Y : Int)) = ((q * Y : Nat) : Int) by push_cast; rfl]
  generalize (u * 4294967296 + u1) % Y = z at *
  generalize q * Y = m at *
  clear h
  rw [IntKind.wrap_u64, IntKind.wrap_u64, IntKind.wrap_u64, IntKind.wrap_u64]
  omega
set_option maxHeartbeats 4000000 in
set_option maxRecDepth 100000 in
theorem div64_calls (hi lo y : Nat) (hh : hi < y) (hl : lo < 18446744073709551616) (hy : y < 18446744073709551616) (h0 : 0 < hi) (w : World) :
    Calls Try.prog 25 #[.int .u64 (hi : Int), .int .u64 (lo : Int), .int .u64 (y : Int)] w fun e w' => ∃ r : Int, e = .returned (.tuple #[.int .u64 (((hi * 18446744073709551616 + lo) / y : Nat) : Int), .int .u64 r]) ∧ Below w.heap.size w w' := by
  obtain ⟨n1, n2, n3, n4⟩ := DivP.norm y hy (by omega)
  have cl := fun w => lz64_calls y hy w
  obtain ⟨s, hs, es⟩ : ∃ s : Nat, Hid (64 - Lib.bitLen y = s) ∧ (64 : Int) - (Lib.bitLen y : Int) = (s : Int) := ⟨_, rfl, by omega⟩
  have hs64 : s ≤ 63 := by have := unhide hs; omega
  rw [unhide hs] at n3 n4
  simp only [es] at cl
  clear n1 n2 es
  have d1 : decide (y ≤ hi) = false := by simp; omega
  have d2 : ((y : Int) == 0) = false := by simp; omega
  have d3 : ((hi : Int) == 0) = false := by simp; omega
  have ep : Hid ((2 : Int) ^ s = ((2 ^ s : Nat) : Int)) := hide (by push_cast; rfl)
  have e1 : Hid (((y : Int) * 2 ^ s) = ((y * 2 ^ s : Nat) : Int)) := hide (by push_cast; rfl)
  obtain ⟨Y, hY⟩ : ∃ Y, Hid (y * 2 ^ s = Y) := ⟨_, rfl⟩
  rw [unhide hY] at n3 n4
  have f1 : IntKind.u64.wrap ((y : Int) * 2 ^ s) = (Y : Int) := by rw [unhide e1, unhide hY, IntKind.wrap_u64]; omega
  have hH : hi * 2 ^ s < Y := by rw [← unhide hY]; exact Nat.mul_lt_mul_of_pos_right hh (Nat.two_pow_pos s)
  have e2 : Hid (((hi : Int) * 2 ^ s) = ((hi * 2 ^ s : Nat) : Int)) := hide (by push_cast; rfl)
  obtain ⟨H, hHH⟩ : ∃ H, Hid (hi * 2 ^ s = H) := ⟨_, rfl⟩
  rw [unhide hHH] at hH
  have f2 : IntKind.u64.wrap ((hi : Int) * 2 ^ s) = (H : Int) := by rw [unhide e2, unhide hHH, IntKind.wrap_u64]; omega
  obtain ⟨L, hL⟩ : ∃ L, Hid (lo / 2 ^ (64 - s) = L) := ⟨_, rfl⟩
  have f3 : (lo : Int) / 2 ^ (64 - s) = (L : Int) := by rw [← unhide hL]; push_cast; rfl
  obtain ⟨v, hv⟩ : ∃ v, Hid (lo * 2 ^ s % 18446744073709551616 = v) := ⟨_, rfl⟩
  have hv64 : v < 18446744073709551616 := by rw [← unhide hv]; exact Nat.mod_lt _ (by decide)
  have f4 : IntKind.u64.wrap ((lo : Int) * 2 ^ s) = (v : Int) := by
    rw [show ((lo : Int) * 2 ^ s) = ((lo * 2 ^ s : Nat) : Int) by push_cast; rfl, ← unhide hv, IntKind.wrap_u64]
    generalize lo * 2 ^ s = z
    omega
  obtain ⟨u, hu⟩ : ∃ u, Hid (H ||| L = u) := ⟨_, rfl⟩
  have hLs : L < 2 ^ s := by
    rw [← unhide hL]
    refine Nat.div_lt_of_lt_mul ?_
    rw [← Nat.pow_add, show 64 - s + s = 64 by omega]; exact hl
  have hsum : Hid (u = H + L) := hide (by rw [← unhide hu, ← unhide hHH]; exact DivP.or_sum hi L s hLs)
  have huY : u < Y := by
    rw [unhide hsum, ← unhide hHH, ← unhide hY]
    have : (hi + 1) * 2 ^ s ≤ y * 2 ^ s := Nat.mul_le_mul_right _ hh
    rw [Nat.add_mul] at this; omega
  have f5 : bits .or .u64 (H : Int) (L : Int) = (u : Int) := by
    have := bits_or_u64_nat H L (by omega) (by have := unhide hsum; omega)
    rw [this, unhide hu]
  obtain ⟨y1, hy1⟩ : ∃ y1, Hid (Y / 4294967296 = y1) := ⟨_, rfl⟩
  obtain ⟨y0, hy0⟩ : ∃ y0, Hid (Y % 4294967296 = y0) := ⟨_, rfl⟩
  have f6 : (Y : Int) / 4294967296 = (y1 : Int) := by rw [← unhide hy1]; omega
  have f7 : bits .and .u64 (Y : Int) 4294967295 = (y0 : Int) := by rw [Mul64.maskN Y n4, unhide hy0]
  have hy1b : 2147483648 ≤ y1 ∧ y1 < 4294967296 := by have := unhide hy1; omega
  have hy0b : y0 < 4294967296 := by have := unhide hy0; omega
  obtain ⟨u1, hu1⟩ : ∃ u1, Hid (v / 4294967296 = u1) := ⟨_, rfl⟩
  obtain ⟨u0, hu0⟩ : ∃ u0, Hid (v % 4294967296 = u0) := ⟨_, rfl⟩
  have f8 : (v : Int) / 4294967296 = (u1 : Int) := by rw [← unhide hu1]; omega
  have f9 : bits .and .u64 (v : Int) 4294967295 = (u0 : Int) := by rw [Mul64.maskN v hv64, unhide hu0]
  have hu1b : u1 < 4294967296 := by have := unhide hu1; omega
  have hu0b : u0 < 4294967296 := by have := unhide hu0; omega
  have hYs : Hid (Y = y1 * 4294967296 + y0) := hide (by rw [← unhide hy1, ← unhide hy0]; omega)
  have huY' : Hid (u < y1 * 4294967296 + y0) := hide (by rw [← unhide hYs]; exact huY)
  obtain ⟨q, r, f10, f11, HG⟩ := start_facts u u1 y1 y0 hy1b.1 hy1b.2 hy0b (unhide huY') (by omega) hu1b
  have Hn := hide (And.intro n3 n4)
  have Hu1 := hide hu1b
  have Hu0 := hide hu0b
  have Hy0 := hide hy0b
  obtain ⟨RES, hRES⟩ : ∃ RES, Hid ((hi * 18446744073709551616 + lo) / y = RES) := ⟨_, rfl⟩
  rw [unhide hRES]
  have hvs : Hid (u1 * 4294967296 + u0 = v) := hide (by have := unhide hu1; have := unhide hu0; omega)
  have hRlt : Hid (RES < 18446744073709551616) := hide (by rw [← unhide hRES]; exact DivP.quo_lt_gen hi lo y _ hh hl)
  have Hfin : Hid (∀ z q1 q0 : Nat, q1 = (u * 4294967296 + u1) / Y → z = (u * 4294967296 + u1) % Y → q0 = (z * 4294967296 + u0) / Y → IntKind.u64.wrap (IntKind.u64.wrap ((q1 : Int) * 4294967296) + (q0 : Int)) = (RES : Int)) := fun z q1 q0 h1 h2 h3 => by
    have e := DivP.both u u1 u0 Y (by omega)
    rw [← h1, ← h2, ← h3] at e
    have e2 := DivP.scaled hi lo y s hs64
    rw [unhide hL, unhide hv, unhide hHH, unhide hY, unhide hRES] at e2
    rw [unhide hvs, unhide hsum, e2] at e
    have hlt := unhide hRlt
    exact fin_num q1 q0 RES e hlt
  clear n3 n4 hH huY hLs hu1b hu0b hy0b
  go_enter Try.func25, Try.ntmps25
  go_wp2_with fail
  refine (cl _).mono ?_
  rintro e w1 ⟨rfl, rfl⟩
  go_wp2
  clear f1 f2 f3 f4 f5 f6 f7 f8 f9 f10 f11
  go_loopw [15, 16] (fun a b wr => wr = w1 ∧ ∃ q r : Nat, a = .int .u64 (q : Int) ∧ b = .int .u64 (r : Int) ∧ DivP.Guess u u1 y1 y0 q r ∧ r < 4294967296) (fun a _ _ => (intOf a).toNat)
  case atStart => exact ⟨rfl, q, r, rfl, rfl, (unhide HG).1, (unhide HG).2⟩
  case round =>
    clear HG
    obtain ⟨rfl, q, r, rfl, rfl, G, hr⟩ := hrel
    have HG := hide (And.intro G hr)
    clear G hr
    by_cases hq : 4294967296 ≤ q
    · have hd : decide (4294967296 ≤ (q : Int)) = true := by simp; omega
      have hq' := hide hq
      clear hq
      obtain ⟨q', r', HGG, f1, f2⟩ := dec_facts (unhide HG).1 (unhide huY') (unhide Hu1) (unhide HG).2 hy1b.2 (.inl (unhide hq'))
      clear HG
      by_cases hr2 : 4294967296 ≤ r'
      · have hd2 : decide (4294967296 ≤ (r' : Int)) = true := by simp; omega
        have hdone : Hid (q' = (u * 4294967296 + u1) / Y) := hide (by rw [unhide hYs]; exact (unhide HGG).1.broke (by have := hy1b.1; omega) (unhide Hy0) (unhide HGG).2.2 hr2)
        clear hr2 HGG
        obtain ⟨z, fz, Hz⟩ := rest_facts u u1 Y q' (unhide hdone) (by have := unhide Hn; omega) (unhide Hn).2
        obtain ⟨q2, r2, fq, fr, HG⟩ := start_facts z u0 y1 y0 hy1b.1 hy1b.2 (unhide Hy0) (by rw [← unhide hYs]; exact (unhide Hz).2) (by have := unhide Hn; have := unhide Hz; omega) (unhide Hu0)
        have hzY : Hid (z < y1 * 4294967296 + y0) := hide (by rw [← unhide hYs]; exact (unhide Hz).2)
        have hdone1 := hdone
        clear hdone
        generalize q' = qq at *
        go_wp2
        clear fz fq fr
        go_loopw [16, 18] (fun b a wr2 => wr2 = wr ∧ ∃ q r : Nat, a = .int .u64 (q : Int) ∧ b = .int .u64 (r : Int) ∧ DivP.Guess z u0 y1 y0 q r ∧ r < 4294967296) (fun _ a _ => (intOf a).toNat)
        case atStart => exact ⟨rfl, q2, r2, rfl, rfl, (unhide HG).1, (unhide HG).2⟩
        case round =>
          clear HG
          obtain ⟨rfl, q, r, rfl, rfl, G, hr⟩ := hrel
          have HG := hide (And.intro G hr)
          clear G hr
          by_cases hq : 4294967296 ≤ q
          · have hd : decide (4294967296 ≤ (q : Int)) = true := by simp; omega
            have hq' := hide hq
            clear hq
            obtain ⟨q', r', HGG, f1, f2⟩ := dec_facts (unhide HG).1 (unhide hzY) (unhide Hu0) (unhide HG).2 hy1b.2 (.inl (unhide hq'))
            clear HG
            by_cases hr2 : 4294967296 ≤ r'
            · have hd2 : decide (4294967296 ≤ (r' : Int)) = true := by simp; omega
              have hdone : Hid (q' = (z * 4294967296 + u0) / Y) := hide (by rw [unhide hYs]; exact (unhide HGG).1.broke (by have := hy1b.1; omega) (unhide Hy0) (unhide HGG).2.2 hr2)
              clear hr2 HGG
              have fin := unhide Hfin z qq q' (unhide hdone1) (unhide Hz).1 (unhide hdone)
              go_wp2
              go_ret2
              exact ⟨_, rfl, Below.refl _ _⟩
            · have hd2 : decide (4294967296 ≤ (r' : Int)) = false := by simp; omega
              have Hr2 := hide hr2
              clear hr2
              go_wp2
              refine ⟨⟨trivial, q', r', rfl, rfl, (unhide HGG).1, by have := unhide Hr2; omega⟩, ?_⟩
              have := (unhide HGG).2.1
              simp [intOf]; exact this
          · have hd : decide (4294967296 ≤ (q : Int)) = false := by simp; omega
            obtain ⟨P, R, S, g1, g2, g3, HP⟩ := cmp_facts q y0 r u0 (by omega) (unhide Hy0) (unhide HG).2 (unhide Hu0)
            have hq' := hide hq
            clear hq
            by_cases hc : S < P
            · have hd3 : decide (S < P) = true := by simpa using hc
              have hc' : Hid (4294967296 * r + u0 < q * y0) := hide (by rw [← (unhide HP).1, ← (unhide HP).2]; exact hc)
              clear hc HP
              obtain ⟨q', r', HGG, f1, f2⟩ := dec_facts (unhide HG).1 (unhide hzY) (unhide Hu0) (unhide HG).2 hy1b.2 (.inr (unhide hc'))
              clear HG
              by_cases hr2 : 4294967296 ≤ r'
              · have hd2 : decide (4294967296 ≤ (r' : Int)) = true := by simp; omega
                have hdone : Hid (q' = (z * 4294967296 + u0) / Y) := hide (by rw [unhide hYs]; exact (unhide HGG).1.broke (by have := hy1b.1; omega) (unhide Hy0) (unhide HGG).2.2 hr2)
                clear hr2 HGG
                have fin := unhide Hfin z qq q' (unhide hdone1) (unhide Hz).1 (unhide hdone)
                go_wp2
                go_ret2
                exact ⟨_, rfl, Below.refl _ _⟩
              · have hd2 : decide (4294967296 ≤ (r' : Int)) = false := by simp; omega
                have Hr2 := hide hr2
                clear hr2
                go_wp2
                refine ⟨⟨trivial, q', r', rfl, rfl, (unhide HGG).1, by have := unhide Hr2; omega⟩, ?_⟩
                have := (unhide HGG).2.1
                simp [intOf]; exact this
            · have hd3 : decide (S < P) = false := by simpa using hc
              have hdone : Hid (q = (z * 4294967296 + u0) / Y) := hide (by rw [unhide hYs]; exact (unhide HG).1.done (by have := hy1b.1; omega) (by rw [← (unhide HP).1, ← (unhide HP).2]; omega))
              clear hc HP HG
              have fin := unhide Hfin z qq q (unhide hdone1) (unhide Hz).1 (unhide hdone)
              go_wp2
              go_ret2
              exact ⟨_, rfl, Below.refl _ _⟩
      · have hd2 : decide (4294967296 ≤ (r' : Int)) = false := by simp; omega
        have Hr2 := hide hr2
        clear hr2
        go_wp2
        refine ⟨⟨trivial, q', r', rfl, rfl, (unhide HGG).1, by have := unhide Hr2; omega⟩, ?_⟩
        have := (unhide HGG).2.1
        simp [intOf]; exact this
    · have hd : decide (4294967296 ≤ (q : Int)) = false := by simp; omega
      obtain ⟨P, R, S, g1, g2, g3, HP⟩ := cmp_facts q y0 r u1 (by omega) (unhide Hy0) (unhide HG).2 (unhide Hu1)
      have hq' := hide hq
      clear hq
      by_cases hc : S < P
      · have hd3 : decide (S < P) = true := by simpa using hc
        have hc' : Hid (4294967296 * r + u1 < q * y0) := hide (by rw [← (unhide HP).1, ← (unhide HP).2]; exact hc)
        clear hc HP
        obtain ⟨q', r', HGG, f1, f2⟩ := dec_facts (unhide HG).1 (unhide huY') (unhide Hu1) (unhide HG).2 hy1b.2 (.inr (unhide hc'))
        clear HG
        by_cases hr2 : 4294967296 ≤ r'
        · have hd2 : decide (4294967296 ≤ (r' : Int)) = true := by simp; omega
          have hdone : Hid (q' = (u * 4294967296 + u1) / Y) := hide (by rw [unhide hYs]; exact (unhide HGG).1.broke (by have := hy1b.1; omega) (unhide Hy0) (unhide HGG).2.2 hr2)
          clear hr2 HGG
          obtain ⟨z, fz, Hz⟩ := rest_facts u u1 Y q' (unhide hdone) (by have := unhide Hn; omega) (unhide Hn).2
          obtain ⟨q2, r2, fq, fr, HG⟩ := start_facts z u0 y1 y0 hy1b.1 hy1b.2 (unhide Hy0) (by rw [← unhide hYs]; exact (unhide Hz).2) (by have := unhide Hn; have := unhide Hz; omega) (unhide Hu0)
          have hzY : Hid (z < y1 * 4294967296 + y0) := hide (by rw [← unhide hYs]; exact (unhide Hz).2)
          have hdone1 := hdone
          clear hdone
          generalize q' = qq at *
          go_wp2
          clear fz fq fr
          go_loopw [16, 18] (fun b a wr2 => wr2 = wr ∧ ∃ q r : Nat, a = .int .u64 (q : Int) ∧ b = .int .u64 (r : Int) ∧ DivP.Guess z u0 y1 y0 q r ∧ r < 4294967296) (fun _ a _ => (intOf a).toNat)
          case atStart => exact ⟨rfl, q2, r2, rfl, rfl, (unhide HG).1, (unhide HG).2⟩
          case round =>
            clear HG
            obtain ⟨rfl, q, r, rfl, rfl, G, hr⟩ := hrel
            have HG := hide (And.intro G hr)
            clear G hr
            by_cases hq : 4294967296 ≤ q
            · have hd : decide (4294967296 ≤ (q : Int)) = true := by simp; omega
              have hq' := hide hq
              clear hq
              obtain ⟨q', r', HGG, f1, f2⟩ := dec_facts (unhide HG).1 (unhide hzY) (unhide Hu0) (unhide HG).2 hy1b.2 (.inl (unhide hq'))
              clear HG
              by_cases hr2 : 4294967296 ≤ r'
              · have hd2 : decide (4294967296 ≤ (r' : Int)) = true := by simp; omega
                have hdone : Hid (q' = (z * 4294967296 + u0) / Y) := hide (by rw [unhide hYs]; exact (unhide HGG).1.broke (by have := hy1b.1; omega) (unhide Hy0) (unhide HGG).2.2 hr2)
                clear hr2 HGG
                have fin := unhide Hfin z qq q' (unhide hdone1) (unhide Hz).1 (unhide hdone)
                go_wp2
                go_ret2
                exact ⟨_, rfl, Below.refl _ _⟩
              · have hd2 : decide (4294967296 ≤ (r' : Int)) = false := by simp; omega
                have Hr2 := hide hr2
                clear hr2
                go_wp2
                refine ⟨⟨trivial, q', r', rfl, rfl, (unhide HGG).1, by have := unhide Hr2; omega⟩, ?_⟩
                have := (unhide HGG).2.1
                simp [intOf]; exact this
            · have hd : decide (4294967296 ≤ (q : Int)) = false := by simp; omega
              obtain ⟨P, R, S, g1, g2, g3, HP⟩ := cmp_facts q y0 r u0 (by omega) (unhide Hy0) (unhide HG).2 (unhide Hu0)
              have hq' := hide hq
              clear hq
              by_cases hc : S < P
              · have hd3 : decide (S < P) = true := by simpa using hc
                have hc' : Hid (4294967296 * r + u0 < q * y0) := hide (by rw [← (unhide HP).1, ← (unhide HP).2]; exact hc)
                clear hc HP
                obtain ⟨q', r', HGG, f1, f2⟩ := dec_facts (unhide HG).1 (unhide hzY) (unhide Hu0) (unhide HG).2 hy1b.2 (.inr (unhide hc'))
                clear HG
                by_cases hr2 : 4294967296 ≤ r'
                · have hd2 : decide (4294967296 ≤ (r' : Int)) = true := by simp; omega
                  have hdone : Hid (q' = (z * 4294967296 + u0) / Y) := hide (by rw [unhide hYs]; exact (unhide HGG).1.broke (by have := hy1b.1; omega) (unhide Hy0) (unhide HGG).2.2 hr2)
                  clear hr2 HGG
                  have fin := unhide Hfin z qq q' (unhide hdone1) (unhide Hz).1 (unhide hdone)
                  go_wp2
                  go_ret2
                  exact ⟨_, rfl, Below.refl _ _⟩
                · have hd2 : decide (4294967296 ≤ (r' : Int)) = false := by simp; omega
                  have Hr2 := hide hr2
                  clear hr2
                  go_wp2
                  refine ⟨⟨trivial, q', r', rfl, rfl, (unhide HGG).1, by have := unhide Hr2; omega⟩, ?_⟩
                  have := (unhide HGG).2.1
                  simp [intOf]; exact this
              · have hd3 : decide (S < P) = false := by simpa using hc
                have hdone : Hid (q = (z * 4294967296 + u0) / Y) := hide (by rw [unhide hYs]; exact (unhide HG).1.done (by have := hy1b.1; omega) (by rw [← (unhide HP).1, ← (unhide HP).2]; omega))
                clear hc HP HG
                have fin := unhide Hfin z qq q (unhide hdone1) (unhide Hz).1 (unhide hdone)
                go_wp2
                go_ret2
                exact ⟨_, rfl, Below.refl _ _⟩
        · have hd2 : decide (4294967296 ≤ (r' : Int)) = false := by simp; omega
          have Hr2 := hide hr2
          clear hr2
          go_wp2
          refine ⟨⟨trivial, q', r', rfl, rfl, (unhide HGG).1, by have := unhide Hr2; omega⟩, ?_⟩
          have := (unhide HGG).2.1
          simp [intOf]; exact this
      · have hd3 : decide (S < P) = false := by simpa using hc
        have hdone : Hid (q = (u * 4294967296 + u1) / Y) := hide (by rw [unhide hYs]; exact (unhide HG).1.done (by have := hy1b.1; omega) (by rw [← (unhide HP).1, ← (unhide HP).2]; omega))
        clear hc HP HG
        obtain ⟨z, fz, Hz⟩ := rest_facts u u1 Y q (unhide hdone) (by have := unhide Hn; omega) (unhide Hn).2
        obtain ⟨q2, r2, fq, fr, HG⟩ := start_facts z u0 y1 y0 hy1b.1 hy1b.2 (unhide Hy0) (by rw [← unhide hYs]; exact (unhide Hz).2) (by have := unhide Hn; have := unhide Hz; omega) (unhide Hu0)
        have hzY : Hid (z < y1 * 4294967296 + y0) := hide (by rw [← unhide hYs]; exact (unhide Hz).2)
        have hdone1 := hdone
        clear hdone
        generalize q = qq at *
        go_wp2
        clear fz fq fr
        go_loopw [16, 18] (fun b a wr2 => wr2 = wr ∧ ∃ q r : Nat, a = .int .u64 (q : Int) ∧ b = .int .u64 (r : Int) ∧ DivP.Guess z u0 y1 y0 q r ∧ r < 4294967296) (fun _ a _ => (intOf a).toNat)
        case atStart => exact ⟨rfl, q2, r2, rfl, rfl, (unhide HG).1, (unhide HG).2⟩
        case round =>
          clear HG
          obtain ⟨rfl, q, r, rfl, rfl, G, hr⟩ := hrel
          have HG := hide (And.intro G hr)
          clear G hr
          by_cases hq : 4294967296 ≤ q
          · have hd : decide (4294967296 ≤ (q : Int)) = true := by simp; omega
            have hq' := hide hq
            clear hq
            obtain ⟨q', r', HGG, f1, f2⟩ := dec_facts (unhide HG).1 (unhide hzY) (unhide Hu0) (unhide HG).2 hy1b.2 (.inl (unhide hq'))
            clear HG
            by_cases hr2 : 4294967296 ≤ r'
            · have hd2 : decide (4294967296 ≤ (r' : Int)) = true := by simp; omega
              have hdone : Hid (q' = (z * 4294967296 + u0) / Y) := hide (by rw [unhide hYs]; exact (unhide HGG).1.broke (by have := hy1b.1; omega) (unhide Hy0) (unhide HGG).2.2 hr2)
              clear hr2 HGG
              have fin := unhide Hfin z qq q' (unhide hdone1) (unhide Hz).1 (unhide hdone)
              go_wp2
              go_ret2
              exact ⟨_, rfl, Below.refl _ _⟩
            · have hd2 : decide (4294967296 ≤ (r' : Int)) = false := by simp; omega
              have Hr2 := hide hr2
              clear hr2
              go_wp2
              refine ⟨⟨trivial, q', r', rfl, rfl, (unhide HGG).1, by have := unhide Hr2; omega⟩, ?_⟩
              have := (unhide HGG).2.1
              simp [intOf]; exact this
          · have hd : decide (4294967296 ≤ (q : Int)) = false := by simp; omega
            obtain ⟨P, R, S, g1, g2, g3, HP⟩ := cmp_facts q y0 r u0 (by omega) (unhide Hy0) (unhide HG).2 (unhide Hu0)
            have hq' := hide hq
            clear hq
            by_cases hc : S < P
            · have hd3 : decide (S < P) = true := by simpa using hc
              have hc' : Hid (4294967296 * r + u0 < q * y0) := hide (by rw [← (unhide HP).1, ← (unhide HP).2]; exact hc)
              clear hc HP
              obtain ⟨q', r', HGG, f1, f2⟩ := dec_facts (unhide HG).1 (unhide hzY) (unhide Hu0) (unhide HG).2 hy1b.2 (.inr (unhide hc'))
              clear HG
              by_cases hr2 : 4294967296 ≤ r'
              · have hd2 : decide (4294967296 ≤ (r' : Int)) = true := by simp; omega
                have hdone : Hid (q' = (z * 4294967296 + u0) / Y) := hide (by rw [unhide hYs]; exact (unhide HGG).1.broke (by have := hy1b.1; omega) (unhide Hy0) (unhide HGG).2.2 hr2)
                clear hr2 HGG
                have fin := unhide Hfin z qq q' (unhide hdone1) (unhide Hz).1 (unhide hdone)
                go_wp2
                go_ret2
                exact ⟨_, rfl, Below.refl _ _⟩
              · have hd2 : decide (4294967296 ≤ (r' : Int)) = false := by simp; omega
                have Hr2 := hide hr2
                clear hr2
                go_wp2
                refine ⟨⟨trivial, q', r', rfl, rfl, (unhide HGG).1, by have := unhide Hr2; omega⟩, ?_⟩
                have := (unhide HGG).2.1
                simp [intOf]; exact this
            · have hd3 : decide (S < P) = false := by simpa using hc
              have hdone : Hid (q = (z * 4294967296 + u0) / Y) := hide (by rw [unhide hYs]; exact (unhide HG).1.done (by have := hy1b.1; omega) (by rw [← (unhide HP).1, ← (unhide HP).2]; omega))
              clear hc HP HG
              have fin := unhide Hfin z qq q (unhide hdone1) (unhide Hz).1 (unhide hdone)
              go_wp2
              go_ret2
              exact ⟨_, rfl, Below.refl _ _⟩
end Ytajeicabfcelaaa
end Go.Proofs
