/-
  WHAT THE DOCUMENT'S OWN Plus AND Less OF WIDE NUMBERS RETURN.
-/
import Derived.Test.YtfdnpmanepoblaaAmtD
namespace Go.Proofs.Ytfdnpmanepoblaa
open Go.RowKit
set_option linter.unusedSimpArgs false
set_option linter.unusedVariables false

theorem cells4 {w : World} {g : Nat} {t : TypeId} {a b c d : Nat} (h : w.heap[g]? = some (.cells (r4 a b c d) t (0, 0))) :
    w.cell? ⟨g, 0, none⟩ = some (.int .u64 (a : Int)) ∧ w.cell? ⟨g, 1, none⟩ = some (.int .u64 (b : Int)) ∧ w.cell? ⟨g, 2, none⟩ = some (.int .u64 (c : Int)) ∧ w.cell? ⟨g, 3, none⟩ = some (.int .u64 (d : Int)) := by
  refine ⟨?_, ?_, ?_, ?_⟩ <;> (rw [cell_of_row _ _ _ _ _ _ h]; rfl)
theorem froz4 {w : World} {g : Nat} {t : TypeId} {R : Array Value} (h : w.heap[g]? = some (.cells R t (0, 0))) (k : Nat) : w.frozen? ⟨g, k, none⟩ = false := frozen_of_row _ _ _ _ _ h
theorem below_drewN' {B : Nat} {a w : World} (h : Below B a w) {g : Nat} (hg : B ≤ g) (n : Nat) {k : Nat} (v : Value) : Below B a ((w.drewN n).setCell ⟨g, k, none⟩ v) := (below_drewN h n).setCell (p := ⟨g, k, none⟩) hg v
theorem heap_drewN (w : World) (n : Nat) : (w.drewN n).heap = w.heap := rfl
set_option maxHeartbeats 1000000 in
set_option maxRecDepth 100000 in
theorem plus4_calls (a0 a1 a2 a3 b0 b1 b2 b3 s0 s1 s2 s3 c1 c2 c3 c4 t0 t1 t2 t3 S0 S1 S2 S3 : Nat)
    (d0 : Dig a0 b0 0 s0 c1 t0 S0) (d1 : Dig a1 b1 c1 s1 c2 t1 S1) (d2 : Dig a2 b2 c2 s2 c3 t2 S2) (d3 : Dig a3 b3 c3 s3 c4 t3 S3)
    (w : World) :
    Calls Try.prog 7 #[.agg (r4 a0 a1 a2 a3), .agg (r4 b0 b1 b2 b3)] w fun e w' => e = .returned (.tuple #[.agg (r4 s0 s1 s2 s3), .int .u64 (c4 : Int)]) ∧ Below w.heap.size w w' := by
  have A3 := hide (al3 w (.cells (r4 a0 a1 a2 a3) 31) (.cells (r4 b0 b1 b2 b3) 31) (.cells (r4 0 0 0 0) 31))
  have B3 := hide (bel3 w (.cells (r4 a0 a1 a2 a3) 31) (.cells (r4 b0 b1 b2 b3) 31) (.cells (r4 0 0 0 0) 31))
  have S3 : Hid ((((w.alloc (.cells (r4 a0 a1 a2 a3) 31)).alloc (.cells (r4 b0 b1 b2 b3) 31)).alloc (.cells (r4 0 0 0 0) 31)).heap.size = w.heap.size + 1 + 1 + 1) := hide (by simp)
  have ia : (Try.prog.info? 31).map (·.size) = some (r4 a0 a1 a2 a3).size := (show (Try.prog.info? 31).map (·.size) = some 4 by kernel_rfl)
  have ib : (Try.prog.info? 31).map (·.size) = some (r4 b0 b1 b2 b3).size := (show (Try.prog.info? 31).map (·.size) = some 4 by kernel_rfl)
  go_enter Try.func7, Try.ntmps7
  go_wp2
  obtain ⟨N, hN⟩ : ∃ N, w.heap.size = N := ⟨_, rfl⟩
  have HN := hide hN
  have E0 := hide d0
  have E1 := hide d1
  have E2 := hide d2
  have E3 := hide d3
  clear d0 d1 d2 d3
  go_loopw [7, 8] (fun c i wr => Below N w wr ∧ wr.heap[N]? = some (.cells (r4 a0 a1 a2 a3) 31 (0, 0)) ∧ wr.heap[N + 1]? = some (.cells (r4 b0 b1 b2 b3) 31 (0, 0)) ∧ wr.heap[N + 1 + 1]? = some (.cells (r4 0 0 0 0) 31 (0, 0)) ∧ ((i = .int .i64 0 ∧ c = .int .u64 0 ∧ wr.heap[N + 1 + 1 + 1]? = some (.cells (r4 0 0 0 0) 31 (0, 0))) ∨ (i = .int .i64 1 ∧ c = .int .u64 (c1 : Int) ∧ wr.heap[N + 1 + 1 + 1]? = some (.cells (r4 s0 0 0 0) 31 (0, 0))) ∨ (i = .int .i64 2 ∧ c = .int .u64 (c2 : Int) ∧ wr.heap[N + 1 + 1 + 1]? = some (.cells (r4 s0 s1 0 0) 31 (0, 0))) ∨ (i = .int .i64 3 ∧ c = .int .u64 (c3 : Int) ∧ wr.heap[N + 1 + 1 + 1]? = some (.cells (r4 s0 s1 s2 0) 31 (0, 0))) ∨ (i = .int .i64 4 ∧ c = .int .u64 (c4 : Int) ∧ wr.heap[N + 1 + 1 + 1]? = some (.cells (r4 s0 s1 s2 s3) 31 (0, 0))))) (fun _ i _ => 4 - (intOf i).toNat)
  case atStart =>
    subst hN
    have s3 := unhide S3
    refine ⟨(unhide B3).alloc (by omega) _, ?_, ?_, ?_, .inl ⟨rfl, rfl, ?_⟩⟩
    · exact (Below.heap_alloc _ _ _ (by first | (simp; done) | (simp; omega))).trans (unhide A3).1
    · exact (Below.heap_alloc _ _ _ (by first | (simp; done) | (simp; omega))).trans (unhide A3).2.1
    · exact (Below.heap_alloc _ _ _ (by simp)).trans (unhide A3).2.2
    · have := al1 (((w.alloc (.cells (r4 a0 a1 a2 a3) 31)).alloc (.cells (r4 b0 b1 b2 b3) 31)).alloc (.cells (r4 0 0 0 0) 31)) (.cells (r4 0 0 0 0) 31)
      rw [s3] at this
      exact this
  case round =>
    obtain ⟨hb, q0, q1, q2, hc⟩ := hrel
    obtain ⟨x0, x1, x2, x3⟩ := cells4 q0
    obtain ⟨y0, y1, y2, y3⟩ := cells4 q1
    have Q0 := hide q0
    have Q1 := hide q1
    have Q2 := hide q2
    have HB := hide hb
    clear q0 q1 q2 hb A3 B3 S3
    rw [hN]
    clear hN
    rcases hc with ⟨rfl, rfl, q3⟩ | ⟨rfl, rfl, q3⟩ | ⟨rfl, rfl, q3⟩ | ⟨rfl, rfl, q3⟩ | ⟨rfl, rfl, q3⟩
    · obtain ⟨g1, g2, g3, g4, g5⟩ := unhide E0
      have g2' : IntKind.u64.wrap (t0 : Int) = (S0 : Int) := by simpa using g2
      have fz := froz4 q3
      obtain ⟨z0, z1, z2, z3⟩ := cells4 q3
      have Q3 := hide q3
      clear q3
      go_wp2
      go_quiet (fail)
      go_wp2
      refine ⟨⟨below_drewN' (unhide HB) (by omega) _ _, ?_, ?_, ?_, .inr (.inl ⟨by rfl, rfl, ?_⟩)⟩, by simp [intOf]⟩
      · rw [Below.heap_setCell _ _ _ _ (by first | (simp; done) | (simp; omega))]; exact unhide Q0
      · rw [Below.heap_setCell _ _ _ _ (by first | (simp; done) | (simp; omega))]; exact unhide Q1
      · rw [Below.heap_setCell _ _ _ _ (by first | (simp; done) | (simp; omega))]; exact unhide Q2
      · exact heap_setCell_same _ _ _ _ _ _ (unhide Q3)
    · obtain ⟨g1, g2, g3, g4, g5⟩ := unhide E1
      have fz := froz4 q3
      obtain ⟨z0, z1, z2, z3⟩ := cells4 q3
      have Q3 := hide q3
      clear q3
      go_wp2
      go_quiet (fail)
      go_wp2
      refine ⟨⟨below_drewN' (unhide HB) (by omega) _ _, ?_, ?_, ?_, .inr (.inr (.inl ⟨by rfl, rfl, ?_⟩))⟩, by simp [intOf]⟩
      · rw [Below.heap_setCell _ _ _ _ (by first | (simp; done) | (simp; omega))]; exact unhide Q0
      · rw [Below.heap_setCell _ _ _ _ (by first | (simp; done) | (simp; omega))]; exact unhide Q1
      · rw [Below.heap_setCell _ _ _ _ (by first | (simp; done) | (simp; omega))]; exact unhide Q2
      · exact heap_setCell_same _ _ _ _ _ _ (unhide Q3)
    · obtain ⟨g1, g2, g3, g4, g5⟩ := unhide E2
      have fz := froz4 q3
      obtain ⟨z0, z1, z2, z3⟩ := cells4 q3
      have Q3 := hide q3
      clear q3
      go_wp2
      go_quiet (fail)
      go_wp2
      refine ⟨⟨below_drewN' (unhide HB) (by omega) _ _, ?_, ?_, ?_, .inr (.inr (.inr (.inl ⟨by rfl, rfl, ?_⟩)))⟩, by simp [intOf]⟩
      · rw [Below.heap_setCell _ _ _ _ (by first | (simp; done) | (simp; omega))]; exact unhide Q0
      · rw [Below.heap_setCell _ _ _ _ (by first | (simp; done) | (simp; omega))]; exact unhide Q1
      · rw [Below.heap_setCell _ _ _ _ (by first | (simp; done) | (simp; omega))]; exact unhide Q2
      · exact heap_setCell_same _ _ _ _ _ _ (unhide Q3)
    · obtain ⟨g1, g2, g3, g4, g5⟩ := unhide E3
      have fz := froz4 q3
      obtain ⟨z0, z1, z2, z3⟩ := cells4 q3
      have Q3 := hide q3
      clear q3
      go_wp2
      go_quiet (fail)
      go_wp2
      refine ⟨⟨below_drewN' (unhide HB) (by omega) _ _, ?_, ?_, ?_, .inr (.inr (.inr (.inr (⟨by rfl, rfl, ?_⟩))))⟩, by simp [intOf]⟩
      · rw [Below.heap_setCell _ _ _ _ (by first | (simp; done) | (simp; omega))]; exact unhide Q0
      · rw [Below.heap_setCell _ _ _ _ (by first | (simp; done) | (simp; omega))]; exact unhide Q1
      · rw [Below.heap_setCell _ _ _ _ (by first | (simp; done) | (simp; omega))]; exact unhide Q2
      · exact heap_setCell_same _ _ _ _ _ _ (unhide Q3)
    · have iS : (Try.prog.info? 31).map (·.size) = some (r4 s0 s1 s2 s3).size := (show (Try.prog.info? 31).map (·.size) = some 4 by kernel_rfl)
      have oS := r4_one s0 s1 s2 s3
      have Q3 := hide q3
      clear q3 x0 x1 x2 x3 y0 y1 y2 y3
      go_wp2_with (first
        | refine wpList_load_row rfl 31 (.tmp 6) rfl (N + 1 + 1 + 1) rfl 31 _ (0, 0) _ (unhide Q3) Try.underlying31 rfl iS ?_
        | refine wpList_store_row rfl 31 (.tmp 4) (.tmp 29) rfl (N + 1 + 1) _ rfl rfl 31 _ (unhide Q2) iS rfl oS ?_)
      exact bodyPost_ret (results_row_tmp rfl _ _ (N + 1 + 1) _ _ _ _ rfl (setRow_heap _ _ _ _ _ _ (unhide Q2)) Try.underlying31 rfl iS) rfl ⟨rfl, by rw [unhide HN]; exact below_setRow (unhide HB) (by omega) _⟩
theorem rplus_calls (a b : Nat) (ha : a < wmax) (hb : b < wmax) (w : World) :
    Calls Try.prog 7 #[.agg (rv a), .agg (rv b)] w fun e w' => e = .returned (.tuple #[.agg (rv ((a + b) % wmax)), .int .u64 (((a + b) / wmax : Nat) : Int)]) ∧ Below w.heap.size w w' := by
  obtain ⟨a0, a1, a2, a3, ea, ha0, ha1, ha2, ha3, hA⟩ := rv_digits a ha
  obtain ⟨b0, b1, b2, b3, eb, hb0, hb1, hb2, hb3, hB⟩ := rv_digits b hb
  obtain ⟨s0, s1, s2, s3, c1, c2, c3, c4, t0, t1, t2, t3, S0, S1, S2, S3, d0, d1, d2, d3, g0, g1, g2, g3, hs⟩ := plus_digits a0 a1 a2 a3 b0 b1 b2 b3 ha0 ha1 ha2 ha3 hb0 hb1 hb2 hb3
  rw [← unhide hA, ← unhide hB] at hs
  have es := rv_eq s0 s1 s2 s3 g0 g1 g2 g3
  have hlt : s0 + 4294967296 * s1 + 18446744073709551616 * s2 + 79228162514264337593543950336 * s3 < wmax := by unfold wmax; omega
  generalize s0 + 4294967296 * s1 + 18446744073709551616 * s2 + 79228162514264337593543950336 * s3 = s at *
  have e1 : (a + b) % wmax = s := by
    rw [hs]; unfold wmax at *
    rw [Nat.add_mul_mod_self_left, Nat.mod_eq_of_lt hlt]
  have e2 : (a + b) / wmax = c4 := by
    rw [hs]; unfold wmax at *
    rw [Nat.add_mul_div_left _ _ (by decide), Nat.div_eq_of_lt hlt, Nat.zero_add]
  rw [e1, e2, es, ea, eb]
  exact plus4_calls _ _ _ _ _ _ _ _ _ _ _ _ _ _ _ _ _ _ _ _ _ _ _ _ d0 d1 d2 d3 w
/-- Which of four digits' numbers is less: by the highest that differ. -/
def lt4 (a0 a1 a2 a3 b0 b1 b2 b3 : Nat) : Bool := if a3 = b3 then (if a2 = b2 then (if a1 = b1 then (if a0 = b0 then false else decide (a0 < b0)) else decide (a1 < b1)) else decide (a2 < b2)) else decide (a3 < b3)
set_option maxHeartbeats 1000000 in
set_option maxRecDepth 100000 in
theorem less4_calls (a0 a1 a2 a3 b0 b1 b2 b3 : Nat) (w : World) :
    Calls Try.prog 9 #[.agg (r4 a0 a1 a2 a3), .agg (r4 b0 b1 b2 b3)] w fun e w' => e = .returned (.bool (lt4 a0 a1 a2 a3 b0 b1 b2 b3)) ∧ Below w.heap.size w w' := by
  have A2 := hide (al2 w (.cells (r4 a0 a1 a2 a3) 31) (.cells (r4 b0 b1 b2 b3) 31))
  have B2 := hide (bel2 w (.cells (r4 a0 a1 a2 a3) 31) (.cells (r4 b0 b1 b2 b3) 31))
  have ia : (Try.prog.info? 31).map (·.size) = some (r4 a0 a1 a2 a3).size := (show (Try.prog.info? 31).map (·.size) = some 4 by kernel_rfl)
  have ib : (Try.prog.info? 31).map (·.size) = some (r4 b0 b1 b2 b3).size := (show (Try.prog.info? 31).map (·.size) = some 4 by kernel_rfl)
  generalize hL : lt4 a0 a1 a2 a3 b0 b1 b2 b3 = LT
  have HL := hide hL
  clear hL
  go_enter Try.func9, Try.ntmps9
  go_wp2
  obtain ⟨N, hN⟩ : ∃ N, w.heap.size = N := ⟨_, rfl⟩
  have HN := hide hN
  go_loopw [5] (fun i wr => Below N w wr ∧ wr.heap[N]? = some (.cells (r4 a0 a1 a2 a3) 31 (0, 0)) ∧ wr.heap[N + 1]? = some (.cells (r4 b0 b1 b2 b3) 31 (0, 0)) ∧ (i = .int .i64 3 ∨ (i = .int .i64 2 ∧ Hid (a3 = b3)) ∨ (i = .int .i64 1 ∧ Hid (a3 = b3 ∧ a2 = b2)) ∨ (i = .int .i64 0 ∧ Hid (a3 = b3 ∧ a2 = b2 ∧ a1 = b1)) ∨ (i = .int .i64 (-1) ∧ Hid (a3 = b3 ∧ a2 = b2 ∧ a1 = b1 ∧ a0 = b0)))) (fun i _ => (intOf i + 1).toNat)
  case atStart =>
    subst hN
    exact ⟨unhide B2, (unhide A2).1, (unhide A2).2, .inl rfl⟩
  case round =>
    obtain ⟨hb, q0, q1, hc⟩ := hrel
    obtain ⟨x0, x1, x2, x3⟩ := cells4 q0
    obtain ⟨y0, y1, y2, y3⟩ := cells4 q1
    have Q0 := hide q0
    have Q1 := hide q1
    have HB := hide hb
    clear q0 q1 hb A2 B2
    rw [hN]
    clear hN
    rcases hc with rfl | ⟨rfl, hk⟩ | ⟨rfl, hk⟩ | ⟨rfl, hk⟩ | ⟨rfl, hk⟩
    · by_cases hd : a3 = b3
      · have Hnx : Hid _ := hide (show a3 = b3 from hd)
        have m1 : ((a3 : Int) == (b3 : Int)) = true := by simp; omega
        have m2 : ((a3 : Int) != (b3 : Int)) = false := by simp; omega
        clear hd
        go_wp2
        go_quiet (fail)
        go_wp2
        exact ⟨⟨below_drewN (unhide HB) _, unhide Q0, unhide Q1, .inr (.inl ⟨rfl, Hnx⟩)⟩, by simp [intOf]⟩
      · have hv : LT = decide (a3 < b3) := by
          rw [← unhide HL]; simp [lt4, hd]
        subst hv
        have m1 : ((a3 : Int) == (b3 : Int)) = false := by simp; omega
        have m2 : ((a3 : Int) != (b3 : Int)) = true := by simp; omega
        clear hd HL
        go_wp2
        go_quiet (fail)
        go_wp2
        go_quiet (fail)
        go_wp2
        go_ret
        exact ⟨rfl, by rw [unhide HN]; exact below_drewN (below_drewN (unhide HB) _) _⟩
    · by_cases hd : a2 = b2
      · have Hnx : Hid _ := hide (show a3 = b3 ∧ a2 = b2 from ⟨unhide hk, hd⟩)
        have m1 : ((a2 : Int) == (b2 : Int)) = true := by simp; omega
        have m2 : ((a2 : Int) != (b2 : Int)) = false := by simp; omega
        clear hd
        go_wp2
        go_quiet (fail)
        go_wp2
        exact ⟨⟨below_drewN (unhide HB) _, unhide Q0, unhide Q1, .inr (.inr (.inl ⟨rfl, Hnx⟩))⟩, by simp [intOf]⟩
      · have hv : LT = decide (a2 < b2) := by
          rw [← unhide HL]; simp [lt4, hd, unhide hk]
        subst hv
        have m1 : ((a2 : Int) == (b2 : Int)) = false := by simp; omega
        have m2 : ((a2 : Int) != (b2 : Int)) = true := by simp; omega
        clear hd HL
        go_wp2
        go_quiet (fail)
        go_wp2
        go_quiet (fail)
        go_wp2
        go_ret
        exact ⟨rfl, by rw [unhide HN]; exact below_drewN (below_drewN (unhide HB) _) _⟩
    · by_cases hd : a1 = b1
      · have Hnx : Hid _ := hide (show a3 = b3 ∧ a2 = b2 ∧ a1 = b1 from ⟨(unhide hk).1, (unhide hk).2, hd⟩)
        have m1 : ((a1 : Int) == (b1 : Int)) = true := by simp; omega
        have m2 : ((a1 : Int) != (b1 : Int)) = false := by simp; omega
        clear hd
        go_wp2
        go_quiet (fail)
        go_wp2
        exact ⟨⟨below_drewN (unhide HB) _, unhide Q0, unhide Q1, .inr (.inr (.inr (.inl ⟨rfl, Hnx⟩)))⟩, by simp [intOf]⟩
      · have hv : LT = decide (a1 < b1) := by
          rw [← unhide HL]; simp [lt4, hd, unhide hk]
        subst hv
        have m1 : ((a1 : Int) == (b1 : Int)) = false := by simp; omega
        have m2 : ((a1 : Int) != (b1 : Int)) = true := by simp; omega
        clear hd HL
        go_wp2
        go_quiet (fail)
        go_wp2
        go_quiet (fail)
        go_wp2
        go_ret
        exact ⟨rfl, by rw [unhide HN]; exact below_drewN (below_drewN (unhide HB) _) _⟩
    · by_cases hd : a0 = b0
      · have Hnx : Hid _ := hide (show a3 = b3 ∧ a2 = b2 ∧ a1 = b1 ∧ a0 = b0 from ⟨(unhide hk).1, (unhide hk).2.1, (unhide hk).2.2, hd⟩)
        have m1 : ((a0 : Int) == (b0 : Int)) = true := by simp; omega
        have m2 : ((a0 : Int) != (b0 : Int)) = false := by simp; omega
        clear hd
        go_wp2
        go_quiet (fail)
        go_wp2
        exact ⟨⟨below_drewN (unhide HB) _, unhide Q0, unhide Q1, .inr (.inr (.inr (.inr (⟨rfl, Hnx⟩))))⟩, by simp [intOf]⟩
      · have hv : LT = decide (a0 < b0) := by
          rw [← unhide HL]; simp [lt4, hd, unhide hk]
        subst hv
        have m1 : ((a0 : Int) == (b0 : Int)) = false := by simp; omega
        have m2 : ((a0 : Int) != (b0 : Int)) = true := by simp; omega
        clear hd HL
        go_wp2
        go_quiet (fail)
        go_wp2
        go_quiet (fail)
        go_wp2
        go_ret
        exact ⟨rfl, by rw [unhide HN]; exact below_drewN (below_drewN (unhide HB) _) _⟩
    · have hv : LT = false := by
        rw [← unhide HL]; simp [lt4, unhide hk]
      subst hv
      clear HL
      go_wp2
      go_ret
      exact ⟨rfl, by rw [unhide HN]; exact unhide HB⟩
theorem rless_calls (a b : Nat) (ha : a < wmax) (hb : b < wmax) (w : World) :
    Calls Try.prog 9 #[.agg (rv a), .agg (rv b)] w fun e w' => e = .returned (.bool (decide (a < b))) ∧ Below w.heap.size w w' := by
  obtain ⟨a0, a1, a2, a3, ea, ha0, ha1, ha2, ha3, hA⟩ := rv_digits a ha
  obtain ⟨b0, b1, b2, b3, eb, hb0, hb1, hb2, hb3, hB⟩ := rv_digits b hb
  have e : decide (a < b) = lt4 a0 a1 a2 a3 b0 b1 b2 b3 := by
    rw [unhide hA, unhide hB]
    unfold lt4
    split
    · split
      · split
        · split
          · apply decide_eq_false; omega
          · apply decide_eq_decide.2; omega
        · apply decide_eq_decide.2; omega
      · apply decide_eq_decide.2; omega
    · apply decide_eq_decide.2; omega
  rw [e, ea, eb]
  exact less4_calls _ _ _ _ _ _ _ _ w
end Go.Proofs.Ytfdnpmanepoblaa
