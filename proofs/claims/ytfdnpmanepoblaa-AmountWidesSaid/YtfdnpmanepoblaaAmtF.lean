/-
  WHAT amount's Sum AND THE DOCUMENT'S OWN RETURN.
-/
import Derived.Test.YtfdnpmanepoblaaAmtE
import Derived.Test.YtfdnpmanepoblaaQuietHead
namespace Go.Proofs.Ytfdnpmanepoblaa
open Go.RowKit
set_option linter.unusedSimpArgs false
set_option linter.unusedVariables false

/-- A list of numbers of 64 bits in memory. -/
def USAt (w : World) (p : Option Addr) (xs : List Nat) : Prop :=
  xs = [] ∨ ∃ b o, p = some ⟨b, o, none⟩ ∧ b < w.heap.size ∧ ∀ j, j < xs.length → w.cell? ⟨b, o + j, none⟩ = some (.int .u64 ((xs.getD j 0 : Nat) : Int))
theorem USAt.below {w w' : World} {B : Nat} {p : Option Addr} {xs : List Nat} (h : USAt w p xs) (hb : Below B w w') (hB : w.heap.size ≤ B) : USAt w' p xs := by
  rcases h with h | ⟨b, o, rfl, hlt, hc⟩
  · exact .inl h
  · refine .inr ⟨b, o, rfl, Nat.lt_of_lt_of_le hlt hb.size, fun j hj => ?_⟩
    · rw [hb.cell (p := ⟨b, o + j, none⟩) (Nat.lt_of_lt_of_le hlt hB)]; exact hc j hj
def tot (xs : List Nat) (k : Nat) : Nat := (xs.take k).sum
theorem tot_succ (xs : List Nat) (k : Nat) (h : k < xs.length) : tot xs (k + 1) = tot xs k + xs.getD k 0 := by
  unfold tot
  rw [List.take_add_one, List.sum_append]
  simp [h]
theorem tot_le (xs : List Nat) (hx : ∀ x ∈ xs, x < 18446744073709551616) : ∀ k, k ≤ xs.length → tot xs k ≤ 18446744073709551615 * k
  | 0, _ => by simp [tot]
  | k + 1, h => by
    have ih := tot_le xs hx k (by omega)
    rw [tot_succ xs k (by omega)]
    have : xs.getD k 0 < 18446744073709551616 := by
      have := hx (xs[k]'(by omega)) (List.getElem_mem _)
      simpa [List.getD, show k < xs.length by omega] using this
    rw [Nat.mul_add]
    omega
theorem wv_add (T x : Nat) (hx : x < 18446744073709551616) : wv (T + x) = #[.int .u64 ((T / 18446744073709551616 + (T % 18446744073709551616 + x) / 18446744073709551616 : Nat) : Int), .int .u64 (((T % 18446744073709551616 + x) % 18446744073709551616 : Nat) : Int)] := by
  rw [← wv_eq _ _ (Nat.mod_lt _ (by decide))]
  exact congrArg wv (by omega)
set_option maxHeartbeats 1000000 in
set_option maxRecDepth 100000 in
theorem sum_calls (xs : List Nat) (hx : ∀ x ∈ xs, x < 18446744073709551616) (hn : xs.length ≤ 200) (p : Option Addr) (cap : Nat) (w : World) (hs : USAt w p xs) :
    Calls Try.prog 10 #[.slice p xs.length cap] w fun e w' => e = .returned (.agg (wv (tot xs xs.length))) ∧ Below w.heap.size w w' := by
  have A2 := hide (al2 w (.cells (wv 0) 25) (.cells (wv 0) 25))
  have B2 := hide (bel2 w (.cells (wv 0) 25) (.cells (wv 0) 25))
  have HS := hide hs
  have HX := hide hx
  have HT := hide (tot_le xs hx)
  have H1 := hide (tot_succ xs)
  clear hs hx
  go_enter Try.func10, Try.ntmps10
  go_wp2
  obtain ⟨N, hN⟩ : ∃ N, w.heap.size = N := ⟨_, rfl⟩
  have HN := hide hN
  go_loopw [10] (fun i wr => ∃ k : Nat, k ≤ xs.length ∧ i = .int .i64 (k : Int) ∧ Below N w wr ∧ wr.heap[N]? = some (.cells (wv 0) 25 (0, 0)) ∧ wr.heap[N + 1]? = some (.cells (wv (tot xs k)) 25 (0, 0))) (fun i _ => xs.length - (intOf i).toNat)
  case atStart =>
    subst hN
    exact ⟨0, by omega, rfl, unhide B2, (unhide A2).1, (unhide A2).2⟩
  case round =>
    obtain ⟨k, hk, rfl, hb, q0, q1⟩ := hrel
    rw [hN]
    clear A2 B2
    by_cases hlt : k < xs.length
    · have hd : decide (k < xs.length) = true := by simpa using hlt
      have hus := unhide HS
      rcases hus with h | ⟨b, o, rfl, hbw, hc⟩
      · rw [h] at hlt; simp at hlt
      · have hcell := hc k hlt
        have hcell' : wr.cell? ⟨b, o + k, none⟩ = some (.int .u64 ((xs.getD k 0 : Nat) : Int)) := by
          rw [hb.cell (p := ⟨b, o + k, none⟩) (by rw [← hN]; exact hbw)]; exact hcell
        have hxk : xs.getD k 0 < 18446744073709551616 := by
          have := unhide HX (xs[k]'hlt) (List.getElem_mem _)
          simpa [List.getD, hlt] using this
        have ht1 := unhide H1 k hlt
        have htl := unhide HT k hk
        obtain ⟨x, hxx⟩ : ∃ x, xs.getD k 0 = x := ⟨_, rfl⟩
        rw [hxx] at hcell' hxk ht1
        have hadd := wv_add (tot xs k) x hxk
        rw [← ht1] at hadd
        obtain ⟨TT1, hTT⟩ : ∃ T, tot xs k = T := ⟨_, rfl⟩
        rw [hTT] at q1 hadd htl ht1
        have hi1 := wide_info (tot xs (k + 1))
        have ho1 := wide_one (tot xs (k + 1))
        have s1 : ∀ w, (callFunc 15 #[.int .u64 ((TT1 % 18446744073709551616 : Nat) : Int), .int .u64 (x : Int), .int .u64 0]).run Try.prog w =
            .ok (.value (.tuple #[.int .u64 (((TT1 % 18446744073709551616 + x) % 18446744073709551616 : Nat) : Int), .int .u64 (((TT1 % 18446744073709551616 + x) / 18446744073709551616 : Nat) : Int)])) w := fun w => add64_run _ x 0 (by omega) w
        have c0 : wr.cell? ⟨N + 1, 0, none⟩ = some (.int .u64 ((TT1 / 18446744073709551616 : Nat) : Int)) := by rw [cell_of_row _ _ _ _ _ _ q1]; rfl
        have c1 : wr.cell? ⟨N + 1, 1, none⟩ = some (.int .u64 ((TT1 % 18446744073709551616 : Nat) : Int)) := by rw [cell_of_row _ _ _ _ _ _ q1]; rfl
        have hh : TT1 / 18446744073709551616 + (TT1 % 18446744073709551616 + x) / 18446744073709551616 < 18446744073709551616 := by omega
        generalize (TT1 % 18446744073709551616 + x) % 18446744073709551616 = L at *
        generalize (TT1 % 18446744073709551616 + x) / 18446744073709551616 = C at *
        generalize TT1 / 18446744073709551616 = H at *
        generalize TT1 % 18446744073709551616 = LL at *
        have f1 : IntKind.u64.wrap ((H : Int) + (C : Int)) = ((H + C : Nat) : Int) := by rw [IntKind.wrap_u64]; omega
        generalize H + C = HH at *
        generalize hT2 : tot xs (k + 1) = T2 at *
        have HT2 := hide hT2
        clear hT2
        have b1 : (0 : Int) ≤ k ∧ (k : Int) < xs.length := by omega
        have Q0 := hide q0
        have Q1 := hide q1
        have HB := hide hb
        have HA := hide hadd
        have Hk := hide hlt
        clear q0 q1 hb hadd hcell hc hbw hxx ht1 htl hxk hTT hh hlt
        go_wp2_with (first | simp only [s1] | refine wpList_store_row rfl 25 (.tmp 3) (.tmp 26) rfl (N + 1) (wv T2) rfl (congrArg Value.agg (unhide HA).symm) 25 _ (unhide Q1) hi1 rfl ho1 ?_)
        refine ⟨⟨k + 1, by have := unhide Hk; omega, by go_num, below_setRow (unhide HB) (by omega) _, ?_, ?_⟩, by have := unhide Hk; simp [intOf]; omega⟩
        · rw [setRow_other _ _ _ _ (by omega)]; exact unhide Q0
        · rw [unhide HT2]; exact setRow_heap _ _ _ _ _ _ (unhide Q1)
    · have hd : decide (k < xs.length) = false := by simpa using hlt
      have hkl : k = xs.length := by omega
      have iS := wide_info (tot xs xs.length)
      have oS := wide_one (tot xs xs.length)
      rw [hkl] at q1
      have Q0 := hide q0
      have Q1 := hide q1
      have HB := hide hb
      clear q0 q1 hb hkl hlt
      go_wp2_with (first
        | refine wpList_load_row rfl 25 (.tmp 3) rfl (N + 1) rfl 25 _ (0, 0) _ (unhide Q1) Try.underlying25 rfl iS ?_
        | refine wpList_store_row rfl 25 (.tmp 2) (.tmp 28) rfl N _ rfl rfl 25 _ (unhide Q0) iS rfl oS ?_)
      exact bodyPost_ret (results_cell_row rfl _ _ N _ _ _ _ rfl (setRow_heap _ _ _ _ _ _ (unhide Q0)) Try.underlying25 rfl iS) rfl ⟨rfl, by rw [unhide HN]; exact below_setRow (unhide HB) (Nat.le_refl _) _⟩
set_option maxHeartbeats 1000000 in
set_option maxRecDepth 100000 in
theorem rsum_calls (xs : List Nat) (hx : ∀ x ∈ xs, x < 18446744073709551616) (hn : xs.length ≤ 200) (p : Option Addr) (cap : Nat) (w : World) (hs : USAt w p xs) :
    Calls Try.prog 11 #[.slice p xs.length cap] w fun e w' => e = .returned (.agg (rv (tot xs xs.length))) ∧ Below w.heap.size w w' := by
  have A2 := hide (al2 w (.cells (rv 0) 31) (.cells (rv 0) 31))
  have B2 := hide (bel2 w (.cells (rv 0) 31) (.cells (rv 0) 31))
  have HS := hide hs
  have HX := hide hx
  have HT := hide (tot_le xs hx)
  have H1 := hide (tot_succ xs)
  clear hs hx
  go_enter Try.func11, Try.ntmps11
  go_wp2
  obtain ⟨N, hN⟩ : ∃ N, w.heap.size = N := ⟨_, rfl⟩
  have HN := hide hN
  go_loopw [8] (fun i wr => ∃ k : Nat, k ≤ xs.length ∧ i = .int .i64 (k : Int) ∧ Below N w wr ∧ wr.heap[N]? = some (.cells (rv 0) 31 (0, 0)) ∧ wr.heap[N + 1]? = some (.cells (rv (tot xs k)) 31 (0, 0))) (fun i _ => xs.length - (intOf i).toNat)
  case atStart =>
    subst hN
    exact ⟨0, by omega, rfl, unhide B2, (unhide A2).1, (unhide A2).2⟩
  case round =>
    obtain ⟨k, hk, rfl, hb, q0, q1⟩ := hrel
    rw [hN]
    clear A2 B2
    by_cases hlt : k < xs.length
    · have hd : decide (k < xs.length) = true := by simpa using hlt
      have hus := unhide HS
      rcases hus with h | ⟨b, o, rfl, hbw, hc⟩
      · rw [h] at hlt; simp at hlt
      · have hcell := hc k hlt
        have hcell' : wr.cell? ⟨b, o + k, none⟩ = some (.int .u64 ((xs.getD k 0 : Nat) : Int)) := by
          rw [hb.cell (p := ⟨b, o + k, none⟩) (by rw [← hN]; exact hbw)]; exact hcell
        have hxk : xs.getD k 0 < 18446744073709551616 := by
          have := unhide HX (xs[k]'hlt) (List.getElem_mem _)
          simpa [List.getD, hlt] using this
        have ht1 := unhide H1 k hlt
        have htl := unhide HT k hk
        obtain ⟨x, hxx⟩ : ∃ x, xs.getD k 0 = x := ⟨_, rfl⟩
        rw [hxx] at hcell' hxk ht1
        obtain ⟨TT1, hTT⟩ : ∃ T, tot xs k = T := ⟨_, rfl⟩
        rw [hTT] at q1 htl ht1
        have hi0 := rv_info TT1
        have hi1 := rv_info (tot xs (k + 1))
        have ho1 := rv_one (tot xs (k + 1))
        have kO : Hid (∀ dd os, Calls Try.prog 16 #[.int .u64 0, .int .u64 (x : Int)] (Sort.grow (redrawn wr dd) os) fun e w'' => e = .returned (.agg (rv x)) ∧ ∃ p : Regrown, w'' = Sort.grow (redrawn wr p.d) p.os) := fun dd os => by
          have := rof_calls 0 x (by decide) hxk (Sort.grow (redrawn wr dd) os)
          rw [Nat.zero_mul, Nat.zero_add] at this
          exact Calls.regrown_of this
        have kP : Hid (∀ dd os, Calls Try.prog 7 #[.agg (rv TT1), .agg (rv x)] (Sort.grow (redrawn wr dd) os) fun e w'' => e = .returned (.tuple #[.agg (rv (tot xs (k + 1))), .int .u64 0]) ∧ ∃ p : Regrown, w'' = Sort.grow (redrawn wr p.d) p.os) := fun dd os => by
          have := rplus_calls TT1 x (by unfold wmax; omega) (by unfold wmax; omega) (Sort.grow (redrawn wr dd) os)
          rw [Nat.mod_eq_of_lt (show TT1 + x < wmax by unfold wmax; omega), Nat.div_eq_of_lt (show TT1 + x < wmax by unfold wmax; omega), ← ht1] at this
          exact Calls.regrown_of this
        have hz : N + 1 < wr.heap.size := (Array.getElem?_eq_some_iff.1 q1).1
        have R1 : Hid (∀ w', (∃ p : Regrown, w' = Sort.grow (redrawn wr p.d) p.os) → w'.heap[N + 1]? = some (.cells (rv TT1) 31 (0, 0))) := fun w' ⟨p, hp⟩ => by
          rw [hp]; exact Below.at (below_regrown wr p.d p.os) hz q1
        generalize hT2 : tot xs (k + 1) = T2 at *
        have HT2 := hide hT2
        have b1 : (0 : Int) ≤ k ∧ (k : Int) < xs.length := by omega
        have Q0 := hide q0
        have Q1 := hide q1
        have HB := hide hb
        have Hk := hide hlt
        have Hz := hide hz
        clear q0 q1 hb hcell hc hbw hxx ht1 htl hxk hTT hlt hT2 hz
        go_wp2_with fail
        refine wp_region_below_head 5 mixed (by kernel_rfl) ?_
        simp only [List.take_succ_cons, List.take_zero]
        refine wpQuiet_load_row rfl 31 (.tmp 3) rfl (N + 1) rfl 31 _ (0, 0) _ (unhide R1) Try.underlying31 rfl hi0 ?_
        quiet_step (fail)
        quiet_step (exact unhide kO _ _)
        quiet_step (exact unhide kP _ _)
        quiet_step (fail)
        refine wpQuiet_nil ?_
        intro w2 hb2
        have p0 := Below.at hb2 (by have := unhide Hz; omega) (unhide Q0)
        have p1 := Below.at hb2 (unhide Hz) (unhide Q1)
        have bb : Below N w w2 := (unhide HB).trans (hb2.mono (by have := unhide Hz; omega))
        have P0 := hide p0
        have P1 := hide p1
        have BB := hide bb
        clear p0 p1 bb hb2
        refine wpAny_take (i := 5) rfl (by kernel_rfl) (by kernel_rfl) (by kernel_rfl) (fun _ _ _ h => h) (.inl ⟨rfl, fun _ => rfl⟩) ?_
        refine wpAny_take (i := 6) rfl (by kernel_rfl) (by kernel_rfl) (by kernel_rfl) (fun _ _ _ h => h) (.inl ⟨rfl, fun _ => rfl⟩) ?_
        refine wpAny_last 7 _ rfl rfl (by kernel_rfl) ?_
        refine wpList_store_row rfl 31 (.tmp 3) (.tmp 17) rfl (N + 1) (rv T2) rfl rfl 31 _ (unhide P1) hi1 rfl ho1 ?_
        go_wp2
        refine ⟨⟨k + 1, by have := unhide Hk; omega, by go_num, below_setRow (unhide BB) (by omega) _, ?_, ?_⟩, by have := unhide Hk; simp [intOf]; omega⟩
        · rw [setRow_other _ _ _ _ (by omega)]; exact unhide P0
        · rw [unhide HT2]; exact setRow_heap _ _ _ _ _ _ (unhide P1)
    · have hd : decide (k < xs.length) = false := by simpa using hlt
      have hkl : k = xs.length := by omega
      have iS := rv_info (tot xs xs.length)
      have oS := rv_one (tot xs xs.length)
      rw [hkl] at q1
      have Q0 := hide q0
      have Q1 := hide q1
      have HB := hide hb
      clear q0 q1 hb hkl hlt
      go_wp2_with (first
        | refine wpList_load_row rfl 31 (.tmp 3) rfl (N + 1) rfl 31 _ (0, 0) _ (unhide Q1) Try.underlying31 rfl iS ?_
        | refine wpList_store_row rfl 31 (.tmp 2) (.tmp 20) rfl N _ rfl rfl 31 _ (unhide Q0) iS rfl oS ?_)
      exact bodyPost_ret (results_cell_row rfl _ _ N _ _ _ _ rfl (setRow_heap _ _ _ _ _ _ (unhide Q0)) Try.underlying31 rfl iS) rfl ⟨rfl, by rw [unhide HN]; exact below_setRow (unhide HB) (Nat.le_refl _) _⟩
end Go.Proofs.Ytfdnpmanepoblaa
