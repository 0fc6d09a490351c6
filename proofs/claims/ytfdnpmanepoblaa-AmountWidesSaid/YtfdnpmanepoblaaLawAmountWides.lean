/-
  THE WALK OF THE LAW AmountWides: it returns true, and nothing that was there has turned.
-/
import Derived.Test.YtfdnpmanepoblaaAmtG
import Derived.Test.YtfdnpmanepoblaaHeldSteps
import Derived.Test.YtfdnpmanepoblaaLoadG
import Derived.Deep.DeepCutAuto
namespace Go.Proofs.Ytfdnpmanepoblaa
open Go.RowKit
set_option linter.unusedSimpArgs false
set_option linter.unusedVariables false

theorem rv_neq (n : Nat) (hn : n < wmax) (w : World) : (binOp .neq 31 (.agg (rv n)) (.agg (rv n))).run Try.prog w = .ok (.bool false) w := by
  obtain ⟨a, b, c, d, e, ha, hb, hc, hd, _⟩ := rv_digits n hn
  have := r4_equal a b c d ha hb hc hd w
  rw [e, run_neq_struct, this]; rfl
set_option maxHeartbeats 8000000 in
set_option maxRecDepth 100000 in
theorem amountWides_small (xs : List Nat) (hx : ∀ x ∈ xs, x < 18446744073709551616) (hn : xs.length ≤ 200) (p : Option Addr) (cap : Nat) (a b : Nat) (ha : a < wmax) (hb : b < wmax) (w : World) (hs : USAt w p xs)
    (s : Nat) (es : Int) (tt oo : Nat) (hadd : ∀ w, Calls Try.prog 5 #[.agg (wv a), .agg (wv b)] w fun e w' => e = .returned (.tuple #[.agg (wv s), .int .i64 es]) ∧ Below w.heap.size w w')
    (hplus : ∀ w, Calls Try.prog 7 #[.agg (rv a), .agg (rv b)] w fun e w' => e = .returned (.tuple #[.agg (rv tt), .int .u64 (oo : Int)]) ∧ Below w.heap.size w w')
    (hsum : Hid ((es = 0 ∧ oo = 0 ∧ tt = s ∧ s < wmax) ∨ (es = 10 ∧ oo = 1 ∧ s = 0)))
    (d : Nat) (ed : Int) (bk nn : Nat) (less : Bool) (hsub : ∀ w, Calls Try.prog 8 #[.agg (wv a), .agg (wv b)] w fun e w' => e = .returned (.tuple #[.agg (wv d), .int .i64 ed]) ∧ Below w.heap.size w w') (hd : d < wmax)
    (hback : ∀ w, Calls Try.prog 7 #[.agg (rv d), .agg (rv b)] w fun e w' => e = .returned (.tuple #[.agg (rv bk), .int .u64 (nn : Int)]) ∧ Below w.heap.size w w')
    (hless : less = decide (a < b)) (hdif : Hid ((less = true ∧ ed = 11 ∧ d = 0) ∨ (less = false ∧ ed = 0 ∧ bk = a ∧ nn = 0))) :
    Calls Try.prog 3 #[.slice p xs.length cap, .agg (wv a), .agg (wv b)] w fun e w' => e = .returned (.bool true) ∧ Below w.heap.size w w' := by
  have ia := wide_info a
  have ib := wide_info b
  have A2 := hide (al2 w (.cells (wv a) 25) (.cells (wv b) 25))
  have B2 := hide (bel2 w (.cells (wv a) 25) (.cells (wv b) 25))
  have S2 : Hid (((w.alloc (.cells (wv a) 25)).alloc (.cells (wv b) 25)).heap.size = w.heap.size + 2) := hide (by simp)
  have HADD := hide hadd
  have HPLUS := hide hplus
  have HSUB := hide hsub
  have HBACK := hide hback
  have HLESS := hide hless
  have HSUM := hide (fun w hs => sum_calls xs hx hn p cap w hs)
  have HRSUM := hide (fun w hs => rsum_calls xs hx hn p cap w hs)
  have HTOT : Hid (tot xs xs.length < wmax) := hide (by have := tot_le xs hx xs.length (Nat.le_refl _); unfold wmax; omega)
  have HUS := hide hs
  have Ha := hide ha
  have Hb := hide hb
  have Hd := hide hd
  have dn : decide ((200 : Int) < (xs.length : Int)) = false := by simp; omega
  clear hadd hplus hsub hback hless hx hs ha hb hd hn
  go_enter Try.func3, Try.ntmps3
  go_wp2_with fail
  refine (awake_calls _).mono ?_
  rintro e w1 ⟨rfl, hb1⟩
  have b1 : Below w.heap.size w w1 := (unhide B2).trans (hb1.mono (by have := unhide S2; omega))
  have q0 := Below.at hb1 (by have := unhide S2; omega) (unhide A2).1
  have q1 := Below.at hb1 (by have := unhide S2; omega) (unhide A2).2
  have z1 : w.heap.size + 2 ≤ w1.heap.size := by have := hb1.size; have := unhide S2; omega
  generalize hN : w.heap.size = N at *
  have HN := hide hN
  have Q0 := hide q0
  have Q1 := hide q1
  have D1 := hide b1
  have Z1 := hide z1
  clear hb1 b1 q0 q1 z1 A2 B2 S2 hN ia ib
  go_wp2_with (first | (refine wpList_load_row rfl 25 (.tmp 4) rfl (N) rfl 25 _ (0, 0) _ (unhide Q0) Try.underlying25 rfl (wide_info _) ?_) | (refine wpList_load_row rfl 25 (.tmp 5) rfl (N + 1) rfl 25 _ (0, 0) _ (unhide Q1) Try.underlying25 rfl (wide_info _) ?_))
  refine (unhide HADD _).mono ?_
  rintro e w2 ⟨rfl, hb2⟩
  have Hb2 := hide hb2
  clear hb2
  go_wp2_with (refine wpList_store_newV rfl 25 (.tmp 7) (.tmp 26) rfl w2 _ _ (wv s) rfl rfl (wide_info _) rfl (wide_one _) ?_; intro w3 q3 hb3 z3)
  have hb13 : Below w1.heap.size w1 w3 := (unhide Hb2).trans (hb3.mono (unhide Hb2).size)
  have z2 := (unhide Hb2).size
  have q0 := Below.at hb13 (by have := unhide Z1; omega) (unhide Q0)
  have q1 := Below.at hb13 (by have := unhide Z1; omega) (unhide Q1)
  have b3 : Below N w w3 := (unhide D1).trans (hb13.mono (by have := unhide Z1; omega))
  have zM : N + 2 ≤ w2.heap.size := by have := unhide Z1; omega
  generalize w2.heap.size = M at *
  clear hb13 hb3 z2 Hb2 D1 Z1 Q0 Q1
  have Z3 := hide z3
  clear z3
  go_wp2_with fail
  go_cut [9, 10] (fun p o wc => ∃ g : Nat, p = .pointer (some ⟨g, 0, none⟩) ∧ o = .int .u64 (oo : Int) ∧ wc.heap[g]? = some (.cells (rv tt) 31 (0, 0)) ∧ Below w3.heap.size w3 wc ∧ w3.heap.size ≤ g)
  case first =>
    have Sd0 : Below w3.heap.size w3 { w3 with drawn := w3.drawn + 1 } := ⟨rfl, rfl, rfl, Nat.le_refl _, fun _ _ => rfl⟩
    have rA : Hid (∀ W : World, Below w3.heap.size w3 W → W.heap[N]? = some (.cells (wv a) 25 (0, 0))) := hide fun W hW => Below.at hW (Array.getElem?_eq_some_iff.1 q0).1 q0
    have rB : Hid (∀ W : World, Below w3.heap.size w3 W → W.heap[(N + 1)]? = some (.cells (wv b) 25 (0, 0))) := hide fun W hW => Below.at hW (Array.getElem?_eq_some_iff.1 q1).1 q1
    refine wp_region_held (S := fun W => Below w3.heap.size w3 W) mixed ?_
    obtain ⟨d0, hd0⟩ : ∃ d, { w3 with drawn := w3.drawn + 1 } = d := ⟨_, rfl⟩
    rw [hd0] at Sd0
    rw [hd0]
    clear hd0
    refine wpAnyH_take (i := 0) rfl (by kernel_rfl) (by kernel_rfl) (by kernel_rfl) (fun _ _ _ h => h) (yields_row rfl 25 (.tmp 4) rfl N rfl 25 _ (0, 0) _ (unhide rA) Try.underlying25 rfl (wide_info _)) Sd0 ?_
    refine wpAnyH_take (i := 2) rfl (by kernel_rfl) (by kernel_rfl) (by kernel_rfl) (fun _ _ _ h => h) (yields_row rfl 25 (.tmp 5) rfl (N + 1) rfl 25 _ (0, 0) _ (unhide rB) Try.underlying25 rfl (wide_info _)) Sd0 ?_
    refine wpAnyH_two 1 8 _ _ (by kernel_rfl) rfl rfl ?_ ?_
    · go_wp2_with fail
      refine (to_calls a (unhide Ha) _).mono ?_
      rintro e v1 ⟨rfl, bv1⟩
      have Sv1 : Below w3.heap.size w3 v1 := Sd0.trans (bv1.mono Sd0.size)
      go_wp2
      refine ⟨Sv1, ?_⟩
      refine wpAnyH_two 3 8 _ _ (by kernel_rfl) rfl rfl ?_ ?_
      · go_wp2_with fail
        refine (to_calls b (unhide Hb) _).mono ?_
        rintro e v2 ⟨rfl, bv2⟩
        have Sv2 : Below w3.heap.size w3 v2 := Sv1.trans (bv2.mono Sv1.size)
        go_wp2
        refine ⟨Sv2, ?_⟩
        refine wpAnyH_two 4 8 _ _ (by kernel_rfl) rfl rfl ?_ ?_
        · go_wp2_with fail
          refine (unhide HPLUS _).mono ?_
          rintro e v3 ⟨rfl, bv3⟩
          have Sv3 : Below w3.heap.size w3 v3 := Sv2.trans (bv3.mono Sv2.size)
          go_wp2
          refine ⟨Sv3, ?_⟩
          refine wpAnyH_take (i := 5) rfl (by kernel_rfl) (by kernel_rfl) (by kernel_rfl) (fun _ _ _ h => h) (.inl ⟨rfl, fun _ _ => rfl⟩) Sv3 ?_
          refine wpAnyH_take (i := 6) rfl (by kernel_rfl) (by kernel_rfl) (by kernel_rfl) (fun _ _ _ h => h) (.inl ⟨rfl, fun _ _ => rfl⟩) Sv3 ?_
          refine wpAnyH_take (i := 7) rfl (by kernel_rfl) (by kernel_rfl) (by kernel_rfl) (fun _ _ _ h => h) (.inl ⟨rfl, fun _ _ => rfl⟩) Sv3 ?_
          refine wpAnyH_one 8 _ (by kernel_rfl) rfl ?_
          go_wp2
          refine ⟨Sv3.alloc Sv3.size _, ?_⟩
          refine wpAnyH_one 9 _ (by kernel_rfl) rfl ?_
          go_wp2_with (refine wpList_store_newV rfl 31 (.tmp 9) (.tmp 34) rfl v3 (rv 0) _ (rv tt) rfl rfl (rv_info _) rfl (rv_one _) ?_; intro wf qf bf zf)
          have Sf := Sv3.trans (bf.mono Sv3.size)
          refine ⟨Sf, wpAnyH_one 10 _ (by kernel_rfl) rfl ?_⟩
          go_wp2
          refine ⟨Sf, wpAnyH_done (by kernel_rfl) ?_ _⟩
          go_wp2
          go_meet
          case rel => exact ⟨v3.heap.size, rfl, rfl, qf, Sf, Sv3.size⟩
        · go_wp2
          have Sy30 : Below w3.heap.size w3 (v2.alloc (.cells (rv 0) 31)) := Sv2.alloc Sv2.size _
          have qy30 := al1 v2 (.cells (rv 0) 31)
          refine ⟨Sy30, ?_⟩
          change wpAnyH _ _ _ _ _ _ _ _ (v2.alloc (.cells (rv 0) 31))
          obtain ⟨y3, hy3⟩ : ∃ Y, v2.alloc (.cells (rv 0) 31) = Y := ⟨_, rfl⟩
          obtain ⟨g3, hg3⟩ : ∃ g, v2.heap.size = g := ⟨_, rfl⟩
          rw [hy3] at Sy30 qy30
          rw [hy3]
          have Zg3 : w3.heap.size ≤ g3 := by rw [← hg3]; exact Sv2.size
          rw [hg3] at qy30
          rw [hg3]
          have Sy3 := Sy30
          clear hy3 hg3
          refine wpAnyH_one 4 _ (by kernel_rfl) rfl ?_
          go_wp2_with fail
          refine (unhide HPLUS _).mono ?_
          rintro e v4 ⟨rfl, bv4⟩
          have Sv4 : Below w3.heap.size w3 v4 := Sy3.trans (bv4.mono Sy3.size)
          have qv4 := Below.at bv4 (Array.getElem?_eq_some_iff.1 qy30).1 qy30
          go_wp2
          refine ⟨Sv4, ?_⟩
          refine wpAnyH_take (i := 5) rfl (by kernel_rfl) (by kernel_rfl) (by kernel_rfl) (fun _ _ _ h => h) (.inl ⟨rfl, fun _ _ => rfl⟩) Sv4 ?_
          refine wpAnyH_take (i := 6) rfl (by kernel_rfl) (by kernel_rfl) (by kernel_rfl) (fun _ _ _ h => h) (.inl ⟨rfl, fun _ _ => rfl⟩) Sv4 ?_
          refine wpAnyH_take (i := 7) rfl (by kernel_rfl) (by kernel_rfl) (by kernel_rfl) (fun _ _ _ h => h) (.inl ⟨rfl, fun _ _ => rfl⟩) Sv4 ?_
          refine wpAnyH_one 9 _ (by kernel_rfl) rfl ?_
          go_wp2_with (refine wpList_store_row rfl 31 (.tmp 9) (.tmp 34) rfl g3 (rv tt) rfl rfl 31 _ qv4 (rv_info _) rfl (rv_one _) ?_)
          have Sf : Below w3.heap.size w3 (v4.setRow g3 (rv tt)) := below_setRow Sv4 Zg3 _
          refine ⟨Sf, wpAnyH_one 10 _ (by kernel_rfl) rfl ?_⟩
          go_wp2
          refine ⟨Sf, wpAnyH_done (by kernel_rfl) ?_ _⟩
          go_wp2
          go_meet
          case rel => exact ⟨g3, rfl, rfl, setRow_heap _ _ _ _ _ _ qv4, Sf, Zg3⟩
      · go_wp2
        have Sy20 : Below w3.heap.size w3 (v1.alloc (.cells (rv 0) 31)) := Sv1.alloc Sv1.size _
        have qy20 := al1 v1 (.cells (rv 0) 31)
        refine ⟨Sy20, ?_⟩
        change wpAnyH _ _ _ _ _ _ _ _ (v1.alloc (.cells (rv 0) 31))
        obtain ⟨y2, hy2⟩ : ∃ Y, v1.alloc (.cells (rv 0) 31) = Y := ⟨_, rfl⟩
        obtain ⟨g2, hg2⟩ : ∃ g, v1.heap.size = g := ⟨_, rfl⟩
        rw [hy2] at Sy20 qy20
        rw [hy2]
        have Zg2 : w3.heap.size ≤ g2 := by rw [← hg2]; exact Sv1.size
        rw [hg2] at qy20
        rw [hg2]
        have Sy2 := Sy20
        clear hy2 hg2
        refine wpAnyH_one 3 _ (by kernel_rfl) rfl ?_
        go_wp2_with fail
        refine (to_calls b (unhide Hb) _).mono ?_
        rintro e v3 ⟨rfl, bv3⟩
        have Sv3 : Below w3.heap.size w3 v3 := Sy2.trans (bv3.mono Sy2.size)
        have qv3 := Below.at bv3 (Array.getElem?_eq_some_iff.1 qy20).1 qy20
        go_wp2
        refine ⟨Sv3, ?_⟩
        refine wpAnyH_one 4 _ (by kernel_rfl) rfl ?_
        go_wp2_with fail
        refine (unhide HPLUS _).mono ?_
        rintro e v4 ⟨rfl, bv4⟩
        have Sv4 : Below w3.heap.size w3 v4 := Sv3.trans (bv4.mono Sv3.size)
        have qv4 := Below.at bv4 (Array.getElem?_eq_some_iff.1 qv3).1 qv3
        go_wp2
        refine ⟨Sv4, ?_⟩
        refine wpAnyH_take (i := 5) rfl (by kernel_rfl) (by kernel_rfl) (by kernel_rfl) (fun _ _ _ h => h) (.inl ⟨rfl, fun _ _ => rfl⟩) Sv4 ?_
        refine wpAnyH_take (i := 6) rfl (by kernel_rfl) (by kernel_rfl) (by kernel_rfl) (fun _ _ _ h => h) (.inl ⟨rfl, fun _ _ => rfl⟩) Sv4 ?_
        refine wpAnyH_take (i := 7) rfl (by kernel_rfl) (by kernel_rfl) (by kernel_rfl) (fun _ _ _ h => h) (.inl ⟨rfl, fun _ _ => rfl⟩) Sv4 ?_
        refine wpAnyH_one 9 _ (by kernel_rfl) rfl ?_
        go_wp2_with (refine wpList_store_row rfl 31 (.tmp 9) (.tmp 34) rfl g2 (rv tt) rfl rfl 31 _ qv4 (rv_info _) rfl (rv_one _) ?_)
        have Sf : Below w3.heap.size w3 (v4.setRow g2 (rv tt)) := below_setRow Sv4 Zg2 _
        refine ⟨Sf, wpAnyH_one 10 _ (by kernel_rfl) rfl ?_⟩
        go_wp2
        refine ⟨Sf, wpAnyH_done (by kernel_rfl) ?_ _⟩
        go_wp2
        go_meet
        case rel => exact ⟨g2, rfl, rfl, setRow_heap _ _ _ _ _ _ qv4, Sf, Zg2⟩
    · go_wp2
      have Sy10 : Below w3.heap.size w3 (d0.alloc (.cells (rv 0) 31)) := Sd0.alloc Sd0.size _
      have qy10 := al1 d0 (.cells (rv 0) 31)
      refine ⟨Sy10, ?_⟩
      change wpAnyH _ _ _ _ _ _ _ _ (d0.alloc (.cells (rv 0) 31))
      obtain ⟨y1, hy1⟩ : ∃ Y, d0.alloc (.cells (rv 0) 31) = Y := ⟨_, rfl⟩
      obtain ⟨g1, hg1⟩ : ∃ g, d0.heap.size = g := ⟨_, rfl⟩
      rw [hy1] at Sy10 qy10
      rw [hy1]
      have Zg1 : w3.heap.size ≤ g1 := by rw [← hg1]; exact Sd0.size
      rw [hg1] at qy10
      rw [hg1]
      have Sy1 := Sy10
      clear hy1 hg1
      refine wpAnyH_one 1 _ (by kernel_rfl) rfl ?_
      go_wp2_with fail
      refine (to_calls a (unhide Ha) _).mono ?_
      rintro e v2 ⟨rfl, bv2⟩
      have Sv2 : Below w3.heap.size w3 v2 := Sy1.trans (bv2.mono Sy1.size)
      have qv2 := Below.at bv2 (Array.getElem?_eq_some_iff.1 qy10).1 qy10
      go_wp2
      refine ⟨Sv2, ?_⟩
      refine wpAnyH_one 3 _ (by kernel_rfl) rfl ?_
      go_wp2_with fail
      refine (to_calls b (unhide Hb) _).mono ?_
      rintro e v3 ⟨rfl, bv3⟩
      have Sv3 : Below w3.heap.size w3 v3 := Sv2.trans (bv3.mono Sv2.size)
      have qv3 := Below.at bv3 (Array.getElem?_eq_some_iff.1 qv2).1 qv2
      go_wp2
      refine ⟨Sv3, ?_⟩
      refine wpAnyH_one 4 _ (by kernel_rfl) rfl ?_
      go_wp2_with fail
      refine (unhide HPLUS _).mono ?_
      rintro e v4 ⟨rfl, bv4⟩
      have Sv4 : Below w3.heap.size w3 v4 := Sv3.trans (bv4.mono Sv3.size)
      have qv4 := Below.at bv4 (Array.getElem?_eq_some_iff.1 qv3).1 qv3
      go_wp2
      refine ⟨Sv4, ?_⟩
      refine wpAnyH_take (i := 5) rfl (by kernel_rfl) (by kernel_rfl) (by kernel_rfl) (fun _ _ _ h => h) (.inl ⟨rfl, fun _ _ => rfl⟩) Sv4 ?_
      refine wpAnyH_take (i := 6) rfl (by kernel_rfl) (by kernel_rfl) (by kernel_rfl) (fun _ _ _ h => h) (.inl ⟨rfl, fun _ _ => rfl⟩) Sv4 ?_
      refine wpAnyH_take (i := 7) rfl (by kernel_rfl) (by kernel_rfl) (by kernel_rfl) (fun _ _ _ h => h) (.inl ⟨rfl, fun _ _ => rfl⟩) Sv4 ?_
      refine wpAnyH_one 9 _ (by kernel_rfl) rfl ?_
      go_wp2_with (refine wpList_store_row rfl 31 (.tmp 9) (.tmp 34) rfl g1 (rv tt) rfl rfl 31 _ qv4 (rv_info _) rfl (rv_one _) ?_)
      have Sf : Below w3.heap.size w3 (v4.setRow g1 (rv tt)) := below_setRow Sv4 Zg1 _
      refine ⟨Sf, wpAnyH_one 10 _ (by kernel_rfl) rfl ?_⟩
      go_wp2
      refine ⟨Sf, wpAnyH_done (by kernel_rfl) ?_ _⟩
      go_wp2
      go_meet
      case rel => exact ⟨g1, rfl, rfl, setRow_heap _ _ _ _ _ _ qv4, Sf, Zg1⟩
  case rest =>
    obtain ⟨G, rfl, rfl, qG, hbc, zG⟩ := hcut
    have c0 := Below.at hbc (Array.getElem?_eq_some_iff.1 q0).1 q0
    have c1 := Below.at hbc (Array.getElem?_eq_some_iff.1 q1).1 q1
    have c2 := Below.at hbc (Array.getElem?_eq_some_iff.1 q3).1 q3
    have bW : Below N w wc := b3.trans (hbc.mono (by have := b3.size; rw [unhide HN] at this; exact this))
    clear q0 q1 q3 hbc b3
    go_wp2_with (first | (refine wpList_load_row rfl 25 (.tmp 4) rfl N rfl 25 _ (0, 0) _ c0 Try.underlying25 rfl (wide_info _) ?_) | (refine wpList_load_row rfl 25 (.tmp 5) rfl (N + 1) rfl 25 _ (0, 0) _ c1 Try.underlying25 rfl (wide_info _) ?_))
    refine (unhide HSUB _).mono ?_
    rintro e w5 ⟨rfl, b5⟩
    have d0 := Below.at b5 (Array.getElem?_eq_some_iff.1 c0).1 c0
    have d1 := Below.at b5 (Array.getElem?_eq_some_iff.1 c1).1 c1
    have d2 := Below.at b5 (Array.getElem?_eq_some_iff.1 c2).1 c2
    have d3 := Below.at b5 (Array.getElem?_eq_some_iff.1 qG).1 qG
    have bW5 : Below N w w5 := bW.trans (b5.mono (by have := bW.size; rw [unhide HN] at this; exact this))
    clear c0 c1 c2 qG b5 bW
    go_wp2_with (refine wpList_store_newV rfl 25 (.tmp 11) (.tmp 40) rfl w5 (wv 0) _ (wv d) rfl rfl (wide_info _) rfl (wide_one _) ?_; intro w6 q4 b6 z6)
    have e0 := Below.at b6 (Array.getElem?_eq_some_iff.1 d0).1 d0
    have e1 := Below.at b6 (Array.getElem?_eq_some_iff.1 d1).1 d1
    have e2 := Below.at b6 (Array.getElem?_eq_some_iff.1 d2).1 d2
    have e3 := Below.at b6 (Array.getElem?_eq_some_iff.1 d3).1 d3
    have bW6 : Below N w w6 := bW5.trans (b6.mono (by have := bW5.size; rw [unhide HN] at this; exact this))
    obtain ⟨K, hK⟩ : ∃ K, w5.heap.size = K := ⟨_, rfl⟩
    rw [hK] at q4
    rw [hK]
    clear d0 d1 d2 d3 b6 bW5 z6 hK zG
    have RA : Hid (∀ w', (∃ p : Regrown, w' = Sort.grow (redrawn w6 p.d) p.os) → w'.heap[N]? = some (.cells (wv a) 25 (0, 0))) := fun w' ⟨p, hp⟩ => by
      rw [hp]; exact Below.at (below_regrown w6 p.d p.os) (Array.getElem?_eq_some_iff.1 e0).1 e0
    have RB : Hid (∀ w', (∃ p : Regrown, w' = Sort.grow (redrawn w6 p.d) p.os) → w'.heap[(N + 1)]? = some (.cells (wv b) 25 (0, 0))) := fun w' ⟨p, hp⟩ => by
      rw [hp]; exact Below.at (below_regrown w6 p.d p.os) (Array.getElem?_eq_some_iff.1 e1).1 e1
    have kA := hide fun d os => Calls.regrown_of (w := w6) (d := d) (os := os) (to_calls a (unhide Ha) _)
    have kB := hide fun d os => Calls.regrown_of (w := w6) (d := d) (os := os) (to_calls b (unhide Hb) _)
    have hl6 := fun W => rless_calls a b (unhide Ha) (unhide Hb) W
    rw [← unhide HLESS] at hl6
    have HL6 := hide hl6
    clear hl6
    have kL := hide fun d os => Calls.regrown_of (w := w6) (d := d) (os := os) (unhide HL6 _)
    go_wp2_with fail
    refine wp_region_below mixed (by kernel_rfl) ?_
    refine wpQuiet_load_row rfl 25 (.tmp 4) rfl N rfl 25 _ (0, 0) _ (unhide RA) Try.underlying25 rfl (wide_info _) ?_
    quiet_step (exact unhide kA _ _)
    refine wpQuiet_load_row rfl 25 (.tmp 5) rfl (N + 1) rfl 25 _ (0, 0) _ (unhide RB) Try.underlying25 rfl (wide_info _) ?_
    quiet_step (exact unhide kB _ _)
    quiet_step (exact unhide kL _ _)
    repeat (quiet_step (fail))
    refine wpQuiet_nil ?_
    intro w7 b7
    have f0 := Below.at b7 (Array.getElem?_eq_some_iff.1 e0).1 e0
    have f1 := Below.at b7 (Array.getElem?_eq_some_iff.1 e1).1 e1
    have f2 := Below.at b7 (Array.getElem?_eq_some_iff.1 e2).1 e2
    have f3 := Below.at b7 (Array.getElem?_eq_some_iff.1 e3).1 e3
    have f4 := Below.at b7 (Array.getElem?_eq_some_iff.1 q4).1 q4
    have bW7 : Below N w w7 := bW6.trans (b7.mono (by have := bW6.size; rw [unhide HN] at this; exact this))
    clear e0 e1 e2 e3 q4 b7 bW6 RA RB kA kB kL HL6
    go_wp2_with fail
    go_cut [74] (fun v wx => v = .bool false ∧ Below w7.heap.size w7 wx)
    case first =>
      have RS : Hid (∀ w', (∃ p : Regrown, w' = Sort.grow (redrawn w7 p.d) p.os) → w'.heap[M]? = some (.cells (wv s) 25 (0, 0))) := fun w' ⟨p, hp⟩ => by
        rw [hp]; exact Below.at (below_regrown w7 p.d p.os) (Array.getElem?_eq_some_iff.1 f2).1 f2
      have RT : Hid (∀ w', (∃ p : Regrown, w' = Sort.grow (redrawn w7 p.d) p.os) → w'.heap[G]? = some (.cells (rv tt) 31 (0, 0))) := fun w' ⟨p, hp⟩ => by
        rw [hp]; exact Below.at (below_regrown w7 p.d p.os) (Array.getElem?_eq_some_iff.1 f3).1 f3
      clear HADD HPLUS HSUB HBACK HSUM HRSUM f0 f1 f2 f3 f4
      rcases unhide hsum with ⟨h1, h2, h3, h4⟩ | ⟨h1, h2, h3⟩
      · subst h1 h2 h3
        have kS := hide fun d os => Calls.regrown_of (w := w7) (d := d) (os := os) (to_calls tt h4 _)
        have hne := hide fun W => rv_neq tt h4 W
        clear hsum
        refine wp_region_below mixed (by kernel_rfl) ?_
        go_big_quiet_step (fail)
        go_big_quiet_step (fail)
        go_big_quiet_step (fail)
        go_big_quiet_step (fail)
        go_big_quiet_step (fail)
        go_big_quiet_step (fail)
        go_big_quiet_step (fail)
        go_big_quiet_step (fail)
        go_big_quiet_step (fail)
        go_big_quiet_step (fail)
        go_big_quiet_step (fail)
        go_big_quiet_step (fail)
        go_big_quiet_step (fail)
        go_big_quiet_step (fail)
        go_big_quiet_step (fail)
        go_big_quiet_step (fail)
        go_big_quiet_step (fail)
        go_big_quiet_step (fail)
        go_big_quiet_step (fail)
        go_big_quiet_step (fail)
        go_big_quiet_step (fail)
        go_big_quiet_step (fail)
        refine wpQuiet_load_row rfl 25 (.tmp 7) rfl M rfl 25 _ (0, 0) _ (unhide RS) Try.underlying25 rfl (wide_info _) ?_
        quiet_step (exact unhide kS _ _)
        refine wpQuiet_load_row rfl 31 (.tmp 9) rfl G rfl 31 _ (0, 0) _ (unhide RT) Try.underlying31 rfl (rv_info _) ?_
        refine wpQuiet_neq rfl 31 31 (.tmp 70) (.tmp 71) rfl _ _ rfl rfl (by kernel_rfl) false (unhide hne) ?_
        quiet_step (fail)
        quiet_step (fail)
        refine wpQuiet_nil ?_
        intro wz bz
        go_wp2
        go_meet
        case rel => exact ⟨rfl, bz⟩
      · subst h1 h2 h3
        clear hsum
        refine wp_region_below mixed (by kernel_rfl) ?_
        go_big_quiet_step (fail)
        go_big_quiet_step (fail)
        go_big_quiet_step (fail)
        go_big_quiet_step (fail)
        go_big_quiet_step (fail)
        go_big_quiet_step (fail)
        go_big_quiet_step (fail)
        go_big_quiet_step (fail)
        go_big_quiet_step (fail)
        go_big_quiet_step (fail)
        go_big_quiet_step (fail)
        go_big_quiet_step (fail)
        refine wpQuiet_load_row rfl 25 (.tmp 7) rfl M rfl 25 _ (0, 0) _ (unhide RS) Try.underlying25 rfl (wide_info _) ?_
        quiet_step (fail)
        refine wpQuiet_neq rfl 25 25 (.tmp 59) (.tmp 60) rfl _ _ rfl rfl (by kernel_rfl) false zero_neq ?_
        quiet_step (fail)
        go_big_quiet_step (fail)
        go_big_quiet_step (fail)
        go_big_quiet_step (fail)
        go_big_quiet_step (fail)
        go_big_quiet_step (fail)
        go_big_quiet_step (fail)
        go_big_quiet_step (fail)
        go_big_quiet_step (fail)
        go_big_quiet_step (fail)
        go_big_quiet_step (fail)
        go_big_quiet_step (fail)
        go_big_quiet_step (fail)
        refine wpQuiet_nil ?_
        intro wz bz
        go_wp2
        go_meet
        case rel => exact ⟨rfl, bz⟩
    case rest =>
      obtain ⟨rfl, b8⟩ := hcut
      have p0 := Below.at b8 (Array.getElem?_eq_some_iff.1 f0).1 f0
      have p1 := Below.at b8 (Array.getElem?_eq_some_iff.1 f1).1 f1
      have p4 := Below.at b8 (Array.getElem?_eq_some_iff.1 f4).1 f4
      have bW8 : Below N w wc := bW7.trans (b8.mono (by have := bW7.size; rw [unhide HN] at this; exact this))
      clear f0 f1 f2 f3 f4 b8 bW7
      go_wp2_with fail
      go_cut [14, 15] (fun p o wx => ∃ g : Nat, p = .pointer (some ⟨g, 0, none⟩) ∧ o = .int .u64 (nn : Int) ∧ wx.heap[g]? = some (.cells (rv bk) 31 (0, 0)) ∧ Below wc.heap.size wc wx ∧ wc.heap.size ≤ g)
      case first =>
          have Sd0 : Below wc.heap.size wc { wc with drawn := wc.drawn + 1 } := ⟨rfl, rfl, rfl, Nat.le_refl _, fun _ _ => rfl⟩
          have rA : Hid (∀ W : World, Below wc.heap.size wc W → W.heap[K]? = some (.cells (wv d) 25 (0, 0))) := hide fun W hW => Below.at hW (Array.getElem?_eq_some_iff.1 p4).1 p4
          have rB : Hid (∀ W : World, Below wc.heap.size wc W → W.heap[(N + 1)]? = some (.cells (wv b) 25 (0, 0))) := hide fun W hW => Below.at hW (Array.getElem?_eq_some_iff.1 p1).1 p1
          refine wp_region_held (S := fun W => Below wc.heap.size wc W) mixed ?_
          obtain ⟨d0, hd0⟩ : ∃ d, { wc with drawn := wc.drawn + 1 } = d := ⟨_, rfl⟩
          rw [hd0] at Sd0
          rw [hd0]
          clear hd0
          refine wpAnyH_take (i := 0) rfl (by kernel_rfl) (by kernel_rfl) (by kernel_rfl) (fun _ _ _ h => h) (yields_row rfl 25 (.tmp 11) rfl K rfl 25 _ (0, 0) _ (unhide rA) Try.underlying25 rfl (wide_info _)) Sd0 ?_
          refine wpAnyH_take (i := 2) rfl (by kernel_rfl) (by kernel_rfl) (by kernel_rfl) (fun _ _ _ h => h) (yields_row rfl 25 (.tmp 5) rfl (N + 1) rfl 25 _ (0, 0) _ (unhide rB) Try.underlying25 rfl (wide_info _)) Sd0 ?_
          refine wpAnyH_two 1 8 _ _ (by kernel_rfl) rfl rfl ?_ ?_
          · go_wp2_with fail
            refine (to_calls d (unhide Hd) _).mono ?_
            rintro e v1 ⟨rfl, bv1⟩
            have Sv1 : Below wc.heap.size wc v1 := Sd0.trans (bv1.mono Sd0.size)
            go_wp2
            refine ⟨Sv1, ?_⟩
            refine wpAnyH_two 3 8 _ _ (by kernel_rfl) rfl rfl ?_ ?_
            · go_wp2_with fail
              refine (to_calls b (unhide Hb) _).mono ?_
              rintro e v2 ⟨rfl, bv2⟩
              have Sv2 : Below wc.heap.size wc v2 := Sv1.trans (bv2.mono Sv1.size)
              go_wp2
              refine ⟨Sv2, ?_⟩
              refine wpAnyH_two 4 8 _ _ (by kernel_rfl) rfl rfl ?_ ?_
              · go_wp2_with fail
                refine (unhide HBACK _).mono ?_
                rintro e v3 ⟨rfl, bv3⟩
                have Sv3 : Below wc.heap.size wc v3 := Sv2.trans (bv3.mono Sv2.size)
                go_wp2
                refine ⟨Sv3, ?_⟩
                refine wpAnyH_take (i := 5) rfl (by kernel_rfl) (by kernel_rfl) (by kernel_rfl) (fun _ _ _ h => h) (.inl ⟨rfl, fun _ _ => rfl⟩) Sv3 ?_
                refine wpAnyH_take (i := 6) rfl (by kernel_rfl) (by kernel_rfl) (by kernel_rfl) (fun _ _ _ h => h) (.inl ⟨rfl, fun _ _ => rfl⟩) Sv3 ?_
                refine wpAnyH_take (i := 7) rfl (by kernel_rfl) (by kernel_rfl) (by kernel_rfl) (fun _ _ _ h => h) (.inl ⟨rfl, fun _ _ => rfl⟩) Sv3 ?_
                refine wpAnyH_one 8 _ (by kernel_rfl) rfl ?_
                go_wp2
                refine ⟨Sv3.alloc Sv3.size _, ?_⟩
                refine wpAnyH_one 9 _ (by kernel_rfl) rfl ?_
                go_wp2_with (refine wpList_store_newV rfl 31 (.tmp 14) (.tmp 81) rfl v3 (rv 0) _ (rv bk) rfl rfl (rv_info _) rfl (rv_one _) ?_; intro wf qf bf zf)
                have Sf := Sv3.trans (bf.mono Sv3.size)
                refine ⟨Sf, wpAnyH_one 10 _ (by kernel_rfl) rfl ?_⟩
                go_wp2
                refine ⟨Sf, wpAnyH_done (by kernel_rfl) ?_ _⟩
                go_wp2
                go_meet
                case rel => exact ⟨v3.heap.size, rfl, rfl, qf, Sf, Sv3.size⟩
              · go_wp2
                have Sy30 : Below wc.heap.size wc (v2.alloc (.cells (rv 0) 31)) := Sv2.alloc Sv2.size _
                have qy30 := al1 v2 (.cells (rv 0) 31)
                refine ⟨Sy30, ?_⟩
                change wpAnyH _ _ _ _ _ _ _ _ (v2.alloc (.cells (rv 0) 31))
                obtain ⟨y3, hy3⟩ : ∃ Y, v2.alloc (.cells (rv 0) 31) = Y := ⟨_, rfl⟩
                obtain ⟨g3, hg3⟩ : ∃ g, v2.heap.size = g := ⟨_, rfl⟩
                rw [hy3] at Sy30 qy30
                rw [hy3]
                have Zg3 : wc.heap.size ≤ g3 := by rw [← hg3]; exact Sv2.size
                rw [hg3] at qy30
                rw [hg3]
                have Sy3 := Sy30
                clear hy3 hg3
                refine wpAnyH_one 4 _ (by kernel_rfl) rfl ?_
                go_wp2_with fail
                refine (unhide HBACK _).mono ?_
                rintro e v4 ⟨rfl, bv4⟩
                have Sv4 : Below wc.heap.size wc v4 := Sy3.trans (bv4.mono Sy3.size)
                have qv4 := Below.at bv4 (Array.getElem?_eq_some_iff.1 qy30).1 qy30
                go_wp2
                refine ⟨Sv4, ?_⟩
                refine wpAnyH_take (i := 5) rfl (by kernel_rfl) (by kernel_rfl) (by kernel_rfl) (fun _ _ _ h => h) (.inl ⟨rfl, fun _ _ => rfl⟩) Sv4 ?_
                refine wpAnyH_take (i := 6) rfl (by kernel_rfl) (by kernel_rfl) (by kernel_rfl) (fun _ _ _ h => h) (.inl ⟨rfl, fun _ _ => rfl⟩) Sv4 ?_
                refine wpAnyH_take (i := 7) rfl (by kernel_rfl) (by kernel_rfl) (by kernel_rfl) (fun _ _ _ h => h) (.inl ⟨rfl, fun _ _ => rfl⟩) Sv4 ?_
                refine wpAnyH_one 9 _ (by kernel_rfl) rfl ?_
                go_wp2_with (refine wpList_store_row rfl 31 (.tmp 14) (.tmp 81) rfl g3 (rv bk) rfl rfl 31 _ qv4 (rv_info _) rfl (rv_one _) ?_)
                have Sf : Below wc.heap.size wc (v4.setRow g3 (rv bk)) := below_setRow Sv4 Zg3 _
                refine ⟨Sf, wpAnyH_one 10 _ (by kernel_rfl) rfl ?_⟩
                go_wp2
                refine ⟨Sf, wpAnyH_done (by kernel_rfl) ?_ _⟩
                go_wp2
                go_meet
                case rel => exact ⟨g3, rfl, rfl, setRow_heap _ _ _ _ _ _ qv4, Sf, Zg3⟩
            · go_wp2
              have Sy20 : Below wc.heap.size wc (v1.alloc (.cells (rv 0) 31)) := Sv1.alloc Sv1.size _
              have qy20 := al1 v1 (.cells (rv 0) 31)
              refine ⟨Sy20, ?_⟩
              change wpAnyH _ _ _ _ _ _ _ _ (v1.alloc (.cells (rv 0) 31))
              obtain ⟨y2, hy2⟩ : ∃ Y, v1.alloc (.cells (rv 0) 31) = Y := ⟨_, rfl⟩
              obtain ⟨g2, hg2⟩ : ∃ g, v1.heap.size = g := ⟨_, rfl⟩
              rw [hy2] at Sy20 qy20
              rw [hy2]
              have Zg2 : wc.heap.size ≤ g2 := by rw [← hg2]; exact Sv1.size
              rw [hg2] at qy20
              rw [hg2]
              have Sy2 := Sy20
              clear hy2 hg2
              refine wpAnyH_one 3 _ (by kernel_rfl) rfl ?_
              go_wp2_with fail
              refine (to_calls b (unhide Hb) _).mono ?_
              rintro e v3 ⟨rfl, bv3⟩
              have Sv3 : Below wc.heap.size wc v3 := Sy2.trans (bv3.mono Sy2.size)
              have qv3 := Below.at bv3 (Array.getElem?_eq_some_iff.1 qy20).1 qy20
              go_wp2
              refine ⟨Sv3, ?_⟩
              refine wpAnyH_one 4 _ (by kernel_rfl) rfl ?_
              go_wp2_with fail
              refine (unhide HBACK _).mono ?_
              rintro e v4 ⟨rfl, bv4⟩
              have Sv4 : Below wc.heap.size wc v4 := Sv3.trans (bv4.mono Sv3.size)
              have qv4 := Below.at bv4 (Array.getElem?_eq_some_iff.1 qv3).1 qv3
              go_wp2
              refine ⟨Sv4, ?_⟩
              refine wpAnyH_take (i := 5) rfl (by kernel_rfl) (by kernel_rfl) (by kernel_rfl) (fun _ _ _ h => h) (.inl ⟨rfl, fun _ _ => rfl⟩) Sv4 ?_
              refine wpAnyH_take (i := 6) rfl (by kernel_rfl) (by kernel_rfl) (by kernel_rfl) (fun _ _ _ h => h) (.inl ⟨rfl, fun _ _ => rfl⟩) Sv4 ?_
              refine wpAnyH_take (i := 7) rfl (by kernel_rfl) (by kernel_rfl) (by kernel_rfl) (fun _ _ _ h => h) (.inl ⟨rfl, fun _ _ => rfl⟩) Sv4 ?_
              refine wpAnyH_one 9 _ (by kernel_rfl) rfl ?_
              go_wp2_with (refine wpList_store_row rfl 31 (.tmp 14) (.tmp 81) rfl g2 (rv bk) rfl rfl 31 _ qv4 (rv_info _) rfl (rv_one _) ?_)
              have Sf : Below wc.heap.size wc (v4.setRow g2 (rv bk)) := below_setRow Sv4 Zg2 _
              refine ⟨Sf, wpAnyH_one 10 _ (by kernel_rfl) rfl ?_⟩
              go_wp2
              refine ⟨Sf, wpAnyH_done (by kernel_rfl) ?_ _⟩
              go_wp2
              go_meet
              case rel => exact ⟨g2, rfl, rfl, setRow_heap _ _ _ _ _ _ qv4, Sf, Zg2⟩
          · go_wp2
            have Sy10 : Below wc.heap.size wc (d0.alloc (.cells (rv 0) 31)) := Sd0.alloc Sd0.size _
            have qy10 := al1 d0 (.cells (rv 0) 31)
            refine ⟨Sy10, ?_⟩
            change wpAnyH _ _ _ _ _ _ _ _ (d0.alloc (.cells (rv 0) 31))
            obtain ⟨y1, hy1⟩ : ∃ Y, d0.alloc (.cells (rv 0) 31) = Y := ⟨_, rfl⟩
            obtain ⟨g1, hg1⟩ : ∃ g, d0.heap.size = g := ⟨_, rfl⟩
            rw [hy1] at Sy10 qy10
            rw [hy1]
            have Zg1 : wc.heap.size ≤ g1 := by rw [← hg1]; exact Sd0.size
            rw [hg1] at qy10
            rw [hg1]
            have Sy1 := Sy10
            clear hy1 hg1
            refine wpAnyH_one 1 _ (by kernel_rfl) rfl ?_
            go_wp2_with fail
            refine (to_calls d (unhide Hd) _).mono ?_
            rintro e v2 ⟨rfl, bv2⟩
            have Sv2 : Below wc.heap.size wc v2 := Sy1.trans (bv2.mono Sy1.size)
            have qv2 := Below.at bv2 (Array.getElem?_eq_some_iff.1 qy10).1 qy10
            go_wp2
            refine ⟨Sv2, ?_⟩
            refine wpAnyH_one 3 _ (by kernel_rfl) rfl ?_
            go_wp2_with fail
            refine (to_calls b (unhide Hb) _).mono ?_
            rintro e v3 ⟨rfl, bv3⟩
            have Sv3 : Below wc.heap.size wc v3 := Sv2.trans (bv3.mono Sv2.size)
            have qv3 := Below.at bv3 (Array.getElem?_eq_some_iff.1 qv2).1 qv2
            go_wp2
            refine ⟨Sv3, ?_⟩
            refine wpAnyH_one 4 _ (by kernel_rfl) rfl ?_
            go_wp2_with fail
            refine (unhide HBACK _).mono ?_
            rintro e v4 ⟨rfl, bv4⟩
            have Sv4 : Below wc.heap.size wc v4 := Sv3.trans (bv4.mono Sv3.size)
            have qv4 := Below.at bv4 (Array.getElem?_eq_some_iff.1 qv3).1 qv3
            go_wp2
            refine ⟨Sv4, ?_⟩
            refine wpAnyH_take (i := 5) rfl (by kernel_rfl) (by kernel_rfl) (by kernel_rfl) (fun _ _ _ h => h) (.inl ⟨rfl, fun _ _ => rfl⟩) Sv4 ?_
            refine wpAnyH_take (i := 6) rfl (by kernel_rfl) (by kernel_rfl) (by kernel_rfl) (fun _ _ _ h => h) (.inl ⟨rfl, fun _ _ => rfl⟩) Sv4 ?_
            refine wpAnyH_take (i := 7) rfl (by kernel_rfl) (by kernel_rfl) (by kernel_rfl) (fun _ _ _ h => h) (.inl ⟨rfl, fun _ _ => rfl⟩) Sv4 ?_
            refine wpAnyH_one 9 _ (by kernel_rfl) rfl ?_
            go_wp2_with (refine wpList_store_row rfl 31 (.tmp 14) (.tmp 81) rfl g1 (rv bk) rfl rfl 31 _ qv4 (rv_info _) rfl (rv_one _) ?_)
            have Sf : Below wc.heap.size wc (v4.setRow g1 (rv bk)) := below_setRow Sv4 Zg1 _
            refine ⟨Sf, wpAnyH_one 10 _ (by kernel_rfl) rfl ?_⟩
            go_wp2
            refine ⟨Sf, wpAnyH_done (by kernel_rfl) ?_ _⟩
            go_wp2
            go_meet
            case rel => exact ⟨g1, rfl, rfl, setRow_heap _ _ _ _ _ _ qv4, Sf, Zg1⟩
      case rest =>
        obtain ⟨H, rfl, rfl, qH, b9, zH⟩ := hcut
        have s0 := Below.at b9 (Array.getElem?_eq_some_iff.1 p0).1 p0
        have s1 := Below.at b9 (Array.getElem?_eq_some_iff.1 p1).1 p1
        have s4 := Below.at b9 (Array.getElem?_eq_some_iff.1 p4).1 p4
        have bW9 : Below N w wc := bW8.trans (b9.mono (by have := bW8.size; rw [unhide HN] at this; exact this))
        clear p0 p1 p4 b9 bW8
        go_wp2_with fail
        go_cut [112] (fun v wx => v = .bool false ∧ Below wc.heap.size wc wx)
        case first =>
          have RD : Hid (∀ w', (∃ p : Regrown, w' = Sort.grow (redrawn wc p.d) p.os) → w'.heap[K]? = some (.cells (wv d) 25 (0, 0))) := fun w' ⟨p, hp⟩ => by
            rw [hp]; exact Below.at (below_regrown wc p.d p.os) (Array.getElem?_eq_some_iff.1 s4).1 s4
          have RK : Hid (∀ w', (∃ p : Regrown, w' = Sort.grow (redrawn wc p.d) p.os) → w'.heap[H]? = some (.cells (rv bk) 31 (0, 0))) := fun w' ⟨p, hp⟩ => by
            rw [hp]; exact Below.at (below_regrown wc p.d p.os) (Array.getElem?_eq_some_iff.1 qH).1 qH
          have RA : Hid (∀ w', (∃ p : Regrown, w' = Sort.grow (redrawn wc p.d) p.os) → w'.heap[N]? = some (.cells (wv a) 25 (0, 0))) := fun w' ⟨p, hp⟩ => by
            rw [hp]; exact Below.at (below_regrown wc p.d p.os) (Array.getElem?_eq_some_iff.1 s0).1 s0
          have kA := hide fun d os => Calls.regrown_of (w := wc) (d := d) (os := os) (to_calls a (unhide Ha) _)
          have hne := hide fun W => rv_neq a (unhide Ha) W
          clear HADD HPLUS HSUB HBACK HSUM HRSUM s0 s1 s4 qH
          rcases unhide hdif with ⟨h1, h2, h3⟩ | ⟨h1, h2, h3, h4⟩
          · subst h1 h2 h3
            clear hdif
            refine wp_region_below mixed (by kernel_rfl) ?_
            go_big_quiet_step (fail)
            go_big_quiet_step (fail)
            go_big_quiet_step (fail)
            go_big_quiet_step (fail)
            go_big_quiet_step (fail)
            go_big_quiet_step (fail)
            go_big_quiet_step (fail)
            refine wpQuiet_load_row rfl 25 (.tmp 11) rfl K rfl 25 _ (0, 0) _ (unhide RD) Try.underlying25 rfl (wide_info _) ?_
            quiet_step (fail)
            refine wpQuiet_neq rfl 25 25 (.tmp 90) (.tmp 91) rfl _ _ rfl rfl (by kernel_rfl) false zero_neq ?_
            quiet_step (fail)
            go_big_quiet_step (fail)
            go_big_quiet_step (fail)
            go_big_quiet_step (fail)
            go_big_quiet_step (fail)
            go_big_quiet_step (fail)
            go_big_quiet_step (fail)
            go_big_quiet_step (fail)
            go_big_quiet_step (fail)
            go_big_quiet_step (fail)
            go_big_quiet_step (fail)
            go_big_quiet_step (fail)
            go_big_quiet_step (fail)
            go_big_quiet_step (fail)
            go_big_quiet_step (fail)
            go_big_quiet_step (fail)
            go_big_quiet_step (fail)
            go_big_quiet_step (fail)
            go_big_quiet_step (fail)
            go_big_quiet_step (fail)
            refine wpQuiet_nil ?_
            intro wz bz
            go_wp2
            go_meet
            case rel => exact ⟨rfl, bz⟩
          · subst h1 h2 h3 h4
            clear hdif
            refine wp_region_below mixed (by kernel_rfl) ?_
            go_big_quiet_step (fail)
            go_big_quiet_step (fail)
            go_big_quiet_step (fail)
            go_big_quiet_step (fail)
            go_big_quiet_step (fail)
            go_big_quiet_step (fail)
            go_big_quiet_step (fail)
            go_big_quiet_step (fail)
            go_big_quiet_step (fail)
            go_big_quiet_step (fail)
            go_big_quiet_step (fail)
            go_big_quiet_step (fail)
            go_big_quiet_step (fail)
            go_big_quiet_step (fail)
            go_big_quiet_step (fail)
            go_big_quiet_step (fail)
            go_big_quiet_step (fail)
            go_big_quiet_step (fail)
            go_big_quiet_step (fail)
            refine wpQuiet_load_row rfl 31 (.tmp 14) rfl H rfl 31 _ (0, 0) _ (unhide RK) Try.underlying31 rfl (rv_info _) ?_
            refine wpQuiet_load_row rfl 25 (.tmp 4) rfl N rfl 25 _ (0, 0) _ (unhide RA) Try.underlying25 rfl (wide_info _) ?_
            quiet_step (exact unhide kA _ _)
            refine wpQuiet_neq rfl 31 31 (.tmp 102) (.tmp 104) rfl _ _ rfl rfl (by kernel_rfl) false (unhide hne) ?_
            quiet_step (fail)
            go_big_quiet_step (fail)
            go_big_quiet_step (fail)
            go_big_quiet_step (fail)
            go_big_quiet_step (fail)
            go_big_quiet_step (fail)
            go_big_quiet_step (fail)
            refine wpQuiet_nil ?_
            intro wz bz
            go_wp2
            go_meet
            case rel => exact ⟨rfl, bz⟩
        case rest =>
          obtain ⟨rfl, b10⟩ := hcut
          have t0 := Below.at b10 (Array.getElem?_eq_some_iff.1 s0).1 s0
          have t1 := Below.at b10 (Array.getElem?_eq_some_iff.1 s1).1 s1
          have bW10 : Below N w wc := bW9.trans (b10.mono (by have := bW9.size; rw [unhide HN] at this; exact this))
          clear s0 s1 s4 qH b10 bW9
          have hl9 := fun W => less_calls a b W
          rw [← unhide HLESS] at hl9
          have HL9 := hide hl9
          have heq := fun W => rv_eql (tot xs xs.length) (unhide HTOT) W
          have hto := hide fun W => to_calls (tot xs xs.length) (unhide HTOT) W
          have hss : (less == less) = true := by simp
          clear hl9
          go_wp2_with fail
          refine (awake_calls _).mono ?_
          rintro e wa ⟨rfl, ba⟩
          have a0 := Below.at ba (Array.getElem?_eq_some_iff.1 t0).1 t0
          have a1 := Below.at ba (Array.getElem?_eq_some_iff.1 t1).1 t1
          have bWa : Below N w wa := bW10.trans (ba.mono (by have := bW10.size; rw [unhide HN] at this; exact this))
          clear t0 t1 ba
          go_wp2_with fail
          refine (unhide HSUM _ ((unhide HUS).below bWa (by rw [unhide HN]; exact Nat.le_refl _))).mono ?_
          rintro e wb ⟨rfl, bb⟩
          have b0 := Below.at bb (Array.getElem?_eq_some_iff.1 a0).1 a0
          have b1 := Below.at bb (Array.getElem?_eq_some_iff.1 a1).1 a1
          have bWb : Below N w wb := bWa.trans (bb.mono (by have := bWa.size; rw [unhide HN] at this; exact this))
          clear a0 a1 bb
          go_wp2_with fail
          refine (unhide hto _).mono ?_
          rintro e wd ⟨rfl, bd⟩
          have x0 := Below.at bd (Array.getElem?_eq_some_iff.1 b0).1 b0
          have x1 := Below.at bd (Array.getElem?_eq_some_iff.1 b1).1 b1
          have bWd : Below N w wd := bWb.trans (bd.mono (by have := bWb.size; rw [unhide HN] at this; exact this))
          clear b0 b1 bd
          go_wp2_with fail
          refine (unhide HRSUM _ ((unhide HUS).below bWd (by rw [unhide HN]; exact Nat.le_refl _))).mono ?_
          rintro e we ⟨rfl, be⟩
          have y0 := Below.at be (Array.getElem?_eq_some_iff.1 x0).1 x0
          have y1 := Below.at be (Array.getElem?_eq_some_iff.1 x1).1 x1
          have bWe : Below N w we := bWd.trans (be.mono (by have := bWd.size; rw [unhide HN] at this; exact this))
          clear x0 x1 be
          generalize rv (tot xs xs.length) = RV at *
          go_wp2_with (first | simp only [heq] | (refine wpList_load_row_gd rfl 25 (.tmp 4) rfl N rfl 25 _ (0, 0) _ y0 Try.underlying25 rfl (wide_info _) ?_) | (refine wpList_load_row_gd rfl 25 (.tmp 5) rfl (N + 1) rfl 25 _ (0, 0) _ y1 Try.underlying25 rfl (wide_info _) ?_))
          refine (unhide HL9 _).mono ?_
          rintro e wf ⟨rfl, bf⟩
          have bWf : Below N w wf := bWe.trans (bf.mono (by have := bWe.size; rw [unhide HN] at this; exact this))
          go_wp2
          go_ret
          exact ⟨rfl, by rw [unhide HN]; exact bWf⟩
end Go.Proofs.Ytfdnpmanepoblaa
