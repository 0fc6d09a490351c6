/-
  WHAT update's Sign RETURNS with one of a signer's keys, where there is no log.
-/
import Derived.Test.YtdkaphebdkdfhaaDoorJ8
namespace Go.Proofs.YtdkaphebdkdfhaaDoor
open Go Go.RowKit
set_option linter.unusedSimpArgs false
set_option linter.unusedVariables false

theorem st_lt {w : World} {g : Nat} {ds : List (List UInt8)} (hds : Hid (ds.length = 16)) (h : DL w (some ⟨g, 0, none⟩) ds) : g < w.heap.size := by
  obtain ⟨b', off', e', h', _⟩ := h.2 (by intro h0; have := unhide hds; rw [h0] at this; simp at this)
  cases e'; exact h'
theorem DL_at {w w' : World} {g : Nat} {ds : List (List UInt8)} (h : DL w (some ⟨g, 0, none⟩) ds) (hk : w'.heap[g]? = w.heap[g]?) : DL w' (some ⟨g, 0, none⟩) ds := by
  refine ⟨h.1, fun hne => ?_⟩
  obtain ⟨b, off, e, hlt, hc⟩ := h.2 hne
  cases e
  have hlt' : g < w'.heap.size := by
    rw [Array.getElem?_eq_getElem hlt] at hk
    exact (Array.getElem?_eq_some_iff.1 hk).1
  refine ⟨g, 0, rfl, hlt', fun i hi r u hu => ?_⟩
  have h1 := hc i hi r u hu
  rw [← h1]
  exact World.cell?_of_block (w := w) hk
def updZ : Array Value := updc 0 (List.replicate 32 0) (List.replicate 32 0) sigZ
set_option maxHeartbeats 16000000 in
set_option maxRecDepth 100000 in
theorem usign_calls (seed : List UInt8) (h : seed.length = 32) (x : Nat) (hx : x < 16) (ds : List (List UInt8)) (hds0 : ds.length = 16) (b off c : Nat) (home : Nat) (hh : home < 4294967296) (a bb : List UInt8) (ha : a.length = 32) (hbb : bb.length = 32) (w : World) (hD : DL w (some ⟨b, off, none⟩) ds) (tabs : Tabs w) :
    Calls Tryd.prog 16 #[.pointer none, .agg (sgc seed (x : Int) (.slice (some ⟨b, off, none⟩) 16 c)), .int .u32 (home : Int), .agg (bc a), .agg (bc bb)] w fun e w' => (∃ gc cap cs, e = .returned (.tuple #[.agg (sgc seed ((x : Int) + 1) (.slice (some ⟨gc, 0, none⟩) 16 cap)), .agg (updc home a bb cs), .int .i64 0]) ∧ w.heap.size ≤ gc ∧ DL w' (some ⟨gc, 0, none⟩) ds ∧ SigAt w' w.heap.size seed (pClaim home a bb) ds x cs) ∧ Below w.heap.size w w' := by
  have hds := hide hds0
  have Hs := hide h
  have hiC := sgc_info seed h (x : Int) (.slice (some ⟨b, off, none⟩) 16 c)
  have hia := digInfo a ha
  have hib := digInfo bb hbb
  have cl0 := fun W t => claim_calls home hh a bb ha hbb W t
  have ks0 := fun W hW t => ksign_calls seed h x hx ds hds0 b off c (pClaim home a bb) (pOf_length _ _) W hW t
  obtain ⟨DG, hDG⟩ : ∃ D, pClaim home a bb = D := ⟨_, rfl⟩
  rw [hDG] at cl0 ks0
  rw [hDG]
  obtain ⟨C, hC⟩ : ∃ C, sgc seed (x : Int) (.slice (some ⟨b, off, none⟩) 16 c) = C := ⟨_, rfl⟩
  rw [hC] at hiC ks0
  rw [hC]
  have cl := hide cl0
  have ks := hide ks0
  have x4 := al1 ((((w.alloc (.cells C 31)).alloc (.cells (bc a) 23)).alloc (.cells (bc bb) 23)).alloc (.cells sg0 31)) (.cells updZ 45)
  obtain ⟨X, hX⟩ : ∃ X, ((((w.alloc (.cells C 31)).alloc (.cells (bc a) 23)).alloc (.cells (bc bb) 23)).alloc (.cells sg0 31)).alloc (.cells updZ 45) = X := ⟨_, rfl⟩
  have HX := hide hX
  have xs : X.heap.size = w.heap.size + 1 + 1 + 1 + 1 + 1 := by rw [← hX]; simp
  have A3 := al3 w (.cells C 31) (.cells (bc a) 23) (.cells (bc bb) 23)
  have B3 := bel3 w (.cells C 31) (.cells (bc a) 23) (.cells (bc bb) 23)
  have x3 : X.heap[w.heap.size + 1 + 1 + 1]? = some (.cells sg0 31 (0, 0)) := by
    rw [← hX, Below.heap_alloc _ _ _ (by simp only [World.size_alloc]; omega)]
    have := al1 (((w.alloc (.cells C 31)).alloc (.cells (bc a) 23)).alloc (.cells (bc bb) 23)) (.cells sg0 31)
    simpa using this
  have x0 : X.heap[w.heap.size]? = some (.cells C 31 (0, 0)) := by rw [← hX, Below.heap_alloc _ _ _ (by simp only [World.size_alloc]; omega), Below.heap_alloc _ _ _ (by simp only [World.size_alloc]; omega)]; exact A3.1
  have x1 : X.heap[w.heap.size + 1]? = some (.cells (bc a) 23 (0, 0)) := by rw [← hX, Below.heap_alloc _ _ _ (by simp only [World.size_alloc]; omega), Below.heap_alloc _ _ _ (by simp only [World.size_alloc]; omega)]; exact A3.2.1
  have x2 : X.heap[w.heap.size + 1 + 1]? = some (.cells (bc bb) 23 (0, 0)) := by rw [← hX, Below.heap_alloc _ _ _ (by simp only [World.size_alloc]; omega), Below.heap_alloc _ _ _ (by simp only [World.size_alloc]; omega)]; exact A3.2.2
  have xb : Below w.heap.size w X := by rw [← hX]; exact (B3.alloc (by simp only [World.size_alloc]; omega) _).alloc (by simp only [World.size_alloc]; omega) _
  rw [hX] at x4
  simp only [World.size_alloc] at x4
  have HD := hide (hD.below xb (Nat.le_refl _))
  have HT := hide (tabs.below xb (Nat.le_refl _))
  have Xs := hide xs
  have X0 := hide x0
  have X1 := hide x1
  have X2 := hide x2
  have X3 := hide x3
  have X4 := hide x4
  have XB := hide xb
  have HDG := hide hDG
  have HA := hide ha
  have HB := hide hbb
  clear xs x0 x1 x2 x3 x4 xb hX hD tabs cl0 ks0 hDG hC A3 B3 h ha hbb hds0
  go_enter Tryd.func16, Tryd.ntmps16
  go_upto_region 1 with fail
  change Code.wp _ _ _ _ (((((w.alloc (.cells C 31)).alloc (.cells (bc a) 23)).alloc (.cells (bc bb) 23)).alloc (.cells sg0 31)).alloc (.cells updZ 45))
  rw [unhide HX]
  go_cut [13, 14, 15] (fun p q v wx => ∃ g12 g13 gc cap : Nat, ∃ cs : Array Value, p = .pointer (some ⟨g12, 0, none⟩) ∧ q = .pointer (some ⟨g13, 0, none⟩) ∧ v = .int .i64 0 ∧ wx.heap[g12]? = some (.cells (sgc seed ((x : Int) + 1) (.slice (some ⟨gc, 0, none⟩) 16 cap)) 31 (0, 0)) ∧ wx.heap[g13]? = some (.cells cs 26 (0, 0)) ∧ DL wx (some ⟨gc, 0, none⟩) ds ∧ SigAt wx X.heap.size seed DG ds x cs ∧ Below X.heap.size X wx ∧ X.heap.size ≤ g12 ∧ X.heap.size ≤ g13 ∧ X.heap.size ≤ gc)
  case first =>
    have Sd0 : Below X.heap.size X { X with drawn := X.drawn + 1 } := ⟨rfl, rfl, rfl, Nat.le_refl _, fun _ _ => rfl⟩
    have hxs := unhide Xs
    have r0 : Hid (∀ W : World, Below X.heap.size X W → W.heap[w.heap.size]? = some (.cells C 31 (0, 0))) := hide fun W hW => Below.at hW (by omega) (unhide X0)
    have r1 : Hid (∀ W : World, Below X.heap.size X W → W.heap[w.heap.size + 1]? = some (.cells (bc a) 23 (0, 0))) := hide fun W hW => Below.at hW (by omega) (unhide X1)
    have r2 : Hid (∀ W : World, Below X.heap.size X W → W.heap[w.heap.size + 1 + 1]? = some (.cells (bc bb) 23 (0, 0))) := hide fun W hW => Below.at hW (by omega) (unhide X2)
    clear hxs
    refine wp_region_held (S := fun W => Below X.heap.size X W) mixed ?_
    obtain ⟨d0, hd0⟩ : ∃ d, { X with drawn := X.drawn + 1 } = d := ⟨_, rfl⟩
    rw [hd0] at Sd0
    rw [hd0]
    clear hd0
    refine wpAnyH_take (i := 0) rfl (by kernel_rfl) (by kernel_rfl) (by kernel_rfl) (fun _ _ _ h => h) (yields_row rfl 31 (.tmp 6) rfl w.heap.size rfl 31 C (0, 0) _ (unhide r0) Tryd.underlying31 rfl hiC) Sd0 ?_
    refine wpAnyH_take (i := 1) rfl (by kernel_rfl) (by kernel_rfl) (by kernel_rfl) (fun _ _ _ h => h) (.inl ⟨rfl, fun _ _ => rfl⟩) Sd0 ?_
    refine wpAnyH_take (i := 2) rfl (by kernel_rfl) (by kernel_rfl) (by kernel_rfl) (fun _ _ _ h => h) (.inl ⟨rfl, fun _ _ => rfl⟩) Sd0 ?_
    refine wpAnyH_take (i := 3) rfl (by kernel_rfl) (by kernel_rfl) (by kernel_rfl) (fun _ _ _ h => h) (.inl ⟨rfl, fun _ _ => rfl⟩) Sd0 ?_
    refine wpAnyH_take (i := 4) rfl (by kernel_rfl) (by kernel_rfl) (by kernel_rfl) (fun _ _ _ h => h) (yields_row rfl 23 (.tmp 8) rfl (w.heap.size + 1) rfl 23 _ (0, 0) _ (unhide r1) Tryd.underlying23 rfl hia) Sd0 ?_
    refine wpAnyH_take (i := 5) rfl (by kernel_rfl) (by kernel_rfl) (by kernel_rfl) (fun _ _ _ h => h) (yields_row rfl 23 (.tmp 9) rfl (w.heap.size + 1 + 1) rfl 23 _ (0, 0) _ (unhide r2) Tryd.underlying23 rfl hib) Sd0 ?_
    have Nd0 := Sd0.size
    refine wpAnyH_three 6 12 13 _ _ _ (by kernel_rfl) rfl rfl rfl ?_ ?_ ?_
    · go_wp2_with fail
      refine (unhide cl _ ((unhide HT).below Sd0 (Nat.le_refl _))).mono ?_
      rintro e v1 ⟨rfl, bv1⟩
      have Sv1 : Below X.heap.size X v1 := Sd0.trans (bv1.mono Sd0.size)
      have Zv1 := bv1.size
      have Nv1 := Sv1.size
      go_wp2
      refine ⟨Sv1, ?_⟩
      refine wpAnyH_three 7 12 13 _ _ _ (by kernel_rfl) rfl rfl rfl ?_ ?_ ?_
      · go_wp2_with fail
        refine (unhide ks _ ((unhide HD).below Sv1 (Nat.le_refl _)) ((unhide HT).below Sv1 (Nat.le_refl _))).mono ?_
        rintro e v2 ⟨⟨gc, cap, cs, rfl, hgc, hDc, hSc⟩, bv2⟩
        have Sv2 : Below X.heap.size X v2 := Sv1.trans (bv2.mono Sv1.size)
        have Zv2 := bv2.size
        have Nv2 := Sv2.size
        have zc := st_lt hds hDc
        obtain ⟨g, gp, hg1, hg2, hcs, t1, t2, t3⟩ := hSc.ex
        have y1 := (Array.getElem?_eq_some_iff.1 t2).1
        have Hcs := hide hcs
        clear hcs
        have y2 := (Array.getElem?_eq_some_iff.1 t3).1
        go_wp2
        refine ⟨Sv2, ?_⟩
        refine wpAnyH_take (i := 8) rfl (by kernel_rfl) (by kernel_rfl) (by kernel_rfl) (fun _ _ _ h => h) (.inl ⟨rfl, fun _ _ => rfl⟩) Sv2 ?_
        refine wpAnyH_take (i := 9) rfl (by kernel_rfl) (by kernel_rfl) (by kernel_rfl) (fun _ _ _ h => h) (.inl ⟨rfl, fun _ _ => rfl⟩) Sv2 ?_
        refine wpAnyH_take (i := 10) rfl (by kernel_rfl) (by kernel_rfl) (by kernel_rfl) (fun _ _ _ h => h) (.inl ⟨rfl, fun _ _ => rfl⟩) Sv2 ?_
        refine wpAnyH_take (i := 11) rfl (by kernel_rfl) (by kernel_rfl) (by kernel_rfl) (fun _ _ _ h => h) (.inl ⟨rfl, fun _ _ => rfl⟩) Sv2 ?_
        refine wpAnyH_two 12 13 _ _ (by kernel_rfl) rfl rfl ?_ ?_
        · go_wp2
          have Sy3 : Below X.heap.size X (v2.alloc (.cells sg0 31)) := Sv2.alloc Sv2.size _
          have q5 := al1 v2 (.cells sg0 31)
          have Zy3 : v2.heap.size + 1 = (v2.alloc (.cells sg0 31)).heap.size := by simp
          have Ky3 : ∀ k, k < v2.heap.size → (v2.alloc (.cells sg0 31)).heap[k]? = v2.heap[k]? := fun k hk => Below.heap_alloc _ _ _ hk
          refine ⟨Sy3, ?_⟩
          change wpAnyH _ _ _ _ _ _ _ _ (v2.alloc (.cells sg0 31))
          obtain ⟨y3, hy3⟩ : ∃ Y, v2.alloc (.cells sg0 31) = Y := ⟨_, rfl⟩
          rw [hy3] at Sy3 q5 Zy3 Ky3
          rw [hy3]
          obtain ⟨g4, hg4⟩ : ∃ g, v2.heap.size = g := ⟨_, rfl⟩
          have Lg4 : X.heap.size ≤ g4 := by rw [← hg4]; exact Sv2.size
          have Mg4 : Hid (v2.heap.size = g4) := hide hg4
          rw [hg4] at q5
          rw [hg4]
          have Wy3 := hide Zy3
          have Ny3 := Sy3.size
          clear hy3 hg4 Zy3
          refine wpAnyH_one 13 _ (by kernel_rfl) rfl ?_
          go_wp2
          have Sy6 : Below X.heap.size X (y3.alloc (.cells sigZ 26)) := Sy3.alloc Sy3.size _
          have q8 := al1 y3 (.cells sigZ 26)
          have Zy6 : y3.heap.size + 1 = (y3.alloc (.cells sigZ 26)).heap.size := by simp
          have Ky6 : ∀ k, k < y3.heap.size → (y3.alloc (.cells sigZ 26)).heap[k]? = y3.heap[k]? := fun k hk => Below.heap_alloc _ _ _ hk
          refine ⟨Sy6, ?_⟩
          change wpAnyH _ _ _ _ _ _ _ _ (y3.alloc (.cells sigZ 26))
          obtain ⟨y6, hy6⟩ : ∃ Y, y3.alloc (.cells sigZ 26) = Y := ⟨_, rfl⟩
          rw [hy6] at Sy6 q8 Zy6 Ky6
          rw [hy6]
          obtain ⟨g7, hg7⟩ : ∃ g, y3.heap.size = g := ⟨_, rfl⟩
          have Lg7 : X.heap.size ≤ g7 := by rw [← hg7]; exact Sy3.size
          have Mg7 : Hid (y3.heap.size = g7) := hide hg7
          rw [hg7] at q8
          rw [hg7]
          have Wy6 := hide Zy6
          have Ny6 := Sy6.size
          clear hy6 hg7 Zy6
          have q9 := (Ky6 _ (Array.getElem?_eq_some_iff.1 q5).1).trans q5
          refine wpAnyH_one 14 _ (by kernel_rfl) rfl ?_
          have hz2 := sg0_size seed (unhide Hs) ((x : Int) + 1) (.slice (some ⟨gc, 0, none⟩) 16 cap)
          have hi2 := sgc_info seed (unhide Hs) ((x : Int) + 1) (.slice (some ⟨gc, 0, none⟩) 16 cap)
          have ho2 := sgc_one seed ((x : Int) + 1) (some ⟨gc, 0, none⟩) 16 cap
          obtain ⟨SG, hSG⟩ : ∃ SG, sgc seed ((x : Int) + 1) (.slice (some ⟨gc, 0, none⟩) 16 cap) = SG := ⟨_, rfl⟩
          rw [hSG] at hz2 hi2 ho2
          rw [hSG]
          have HSG := hide hSG
          have hsz := hSc.size
          have hsi := sig_info cs hsz.1
          have hso := hsz.2
          have hsq : sigZ.size = cs.size := by rw [hsz.1]; rfl
          clear hSG hsz
          go_wp2_with (refine wpList_store_row rfl 31 (.tmp 13) (.tmp 25) rfl g4 SG rfl rfl 31 _ q9 hi2 hz2 ho2 ?_)
          have Su10 : Below X.heap.size X (y6.setRow g4 SG) := below_setRow Sy6 Lg4 _
          have ru10 := setRow_heap _ _ _ SG _ _ q9
          have Ku10 : ∀ k, k ≠ g4 → (y6.setRow g4 SG).heap[k]? = y6.heap[k]? := fun k hk => setRow_other _ _ _ _ hk
          have Tu10 : Hid ((y6.setRow g4 SG).heap.size = y6.heap.size) := hide (setRow_size _ _ _)
          obtain ⟨u10, hu10⟩ : ∃ Y, y6.setRow g4 SG = Y := ⟨_, rfl⟩
          rw [hu10] at Su10 ru10 Ku10 Tu10
          rw [hu10]
          clear hu10
          refine ⟨Su10, ?_⟩
          have q11 := (Ku10 _ (by (have := unhide Mg4; have := unhide Wy3; have := unhide Mg7; have := unhide Wy6; omega))).trans q8
          refine wpAnyH_one 15 _ (by kernel_rfl) rfl ?_
          go_wp2_with (refine wpList_store_row rfl 26 (.tmp 14) (.tmp 26) rfl g7 cs rfl rfl 26 _ q11 hsi hsq hso ?_)
          have Su12 : Below X.heap.size X (u10.setRow g7 cs) := below_setRow Su10 Lg7 _
          have ru12 := setRow_heap _ _ _ cs _ _ q11
          have Ku12 : ∀ k, k ≠ g7 → (u10.setRow g7 cs).heap[k]? = u10.heap[k]? := fun k hk => setRow_other _ _ _ _ hk
          have Tu12 : Hid ((u10.setRow g7 cs).heap.size = u10.heap.size) := hide (setRow_size _ _ _)
          obtain ⟨u12, hu12⟩ : ∃ Y, u10.setRow g7 cs = Y := ⟨_, rfl⟩
          rw [hu12] at Su12 ru12 Ku12 Tu12
          rw [hu12]
          clear hu12
          refine ⟨Su12, ?_⟩
          have q13 := (Ku12 _ (by (have := unhide Mg4; have := unhide Wy3; have := unhide Mg7; have := unhide Wy6; have := unhide Tu10; omega))).trans ru10
          refine wpAnyH_one 16 _ (by kernel_rfl) rfl ?_
          go_wp2
          refine ⟨Su12, ?_⟩
          have keep : ∀ k, k < v2.heap.size → k ≠ g4 → k ≠ g7 → u12.heap[k]? = v2.heap[k]? := fun k h1 h2 h3 => ((((Ku12 k (by (first | (have := h1; have := h2; have := h3; have := unhide Mg4; have := unhide Wy3; have := unhide Mg7; have := unhide Wy6; have := unhide Tu10; have := unhide Tu12; omega)))).trans (Ku10 k (by (first | (have := h1; have := h2; have := h3; have := unhide Mg4; have := unhide Wy3; have := unhide Mg7; have := unhide Wy6; have := unhide Tu10; have := unhide Tu12; omega))))).trans (Ky6 k (by (first | (have := h1; have := h2; have := h3; have := unhide Mg4; have := unhide Wy3; have := unhide Mg7; have := unhide Wy6; have := unhide Tu10; have := unhide Tu12; omega))))).trans (Ky3 k (by (first | (have := h1; have := h2; have := h3; have := unhide Mg4; have := unhide Wy3; have := unhide Mg7; have := unhide Wy6; have := unhide Tu10; have := unhide Tu12; omega)))))
          refine wpAnyH_done (by kernel_rfl) ?_ _
          go_wp2
          go_meet
          case rel => exact ⟨g4, g7, gc, cap, cs, rfl, rfl, rfl, by rw [unhide HSG]; exact q13, ru12, DL_at hDc (keep gc (by (have := unhide Mg4; have := unhide Wy3; have := unhide Mg7; have := unhide Wy6; have := unhide Tu10; have := unhide Tu12; omega)) (by (have := unhide Mg4; have := unhide Wy3; have := unhide Mg7; have := unhide Wy6; have := unhide Tu10; have := unhide Tu12; omega)) (by (have := unhide Mg4; have := unhide Wy3; have := unhide Mg7; have := unhide Wy6; have := unhide Tu10; have := unhide Tu12; omega))), ⟨g, gp, by (have := unhide Mg4; have := unhide Wy3; have := unhide Mg7; have := unhide Wy6; have := unhide Tu10; have := unhide Tu12; omega), by (have := unhide Mg4; have := unhide Wy3; have := unhide Mg7; have := unhide Wy6; have := unhide Tu10; have := unhide Tu12; omega), unhide Hcs, (keep g (by (have := unhide Mg4; have := unhide Wy3; have := unhide Mg7; have := unhide Wy6; have := unhide Tu10; have := unhide Tu12; omega)) (by (have := unhide Mg4; have := unhide Wy3; have := unhide Mg7; have := unhide Wy6; have := unhide Tu10; have := unhide Tu12; omega)) (by (have := unhide Mg4; have := unhide Wy3; have := unhide Mg7; have := unhide Wy6; have := unhide Tu10; have := unhide Tu12; omega))).trans t1, (keep (g + 1) (by (have := unhide Mg4; have := unhide Wy3; have := unhide Mg7; have := unhide Wy6; have := unhide Tu10; have := unhide Tu12; omega)) (by (have := unhide Mg4; have := unhide Wy3; have := unhide Mg7; have := unhide Wy6; have := unhide Tu10; have := unhide Tu12; omega)) (by (have := unhide Mg4; have := unhide Wy3; have := unhide Mg7; have := unhide Wy6; have := unhide Tu10; have := unhide Tu12; omega))).trans t2, (keep gp (by (have := unhide Mg4; have := unhide Wy3; have := unhide Mg7; have := unhide Wy6; have := unhide Tu10; have := unhide Tu12; omega)) (by (have := unhide Mg4; have := unhide Wy3; have := unhide Mg7; have := unhide Wy6; have := unhide Tu10; have := unhide Tu12; omega)) (by (have := unhide Mg4; have := unhide Wy3; have := unhide Mg7; have := unhide Wy6; have := unhide Tu10; have := unhide Tu12; omega))).trans t3⟩, Su12, by (have := unhide Mg4; have := unhide Wy3; have := unhide Mg7; have := unhide Wy6; have := unhide Tu10; have := unhide Tu12; omega), by (have := unhide Mg4; have := unhide Wy3; have := unhide Mg7; have := unhide Wy6; have := unhide Tu10; have := unhide Tu12; omega), by (have := unhide Mg4; have := unhide Wy3; have := unhide Mg7; have := unhide Wy6; have := unhide Tu10; have := unhide Tu12; omega)⟩
        · go_wp2
          have Sy14 : Below X.heap.size X (v2.alloc (.cells sigZ 26)) := Sv2.alloc Sv2.size _
          have q16 := al1 v2 (.cells sigZ 26)
          have Zy14 : v2.heap.size + 1 = (v2.alloc (.cells sigZ 26)).heap.size := by simp
          have Ky14 : ∀ k, k < v2.heap.size → (v2.alloc (.cells sigZ 26)).heap[k]? = v2.heap[k]? := fun k hk => Below.heap_alloc _ _ _ hk
          refine ⟨Sy14, ?_⟩
          change wpAnyH _ _ _ _ _ _ _ _ (v2.alloc (.cells sigZ 26))
          obtain ⟨y14, hy14⟩ : ∃ Y, v2.alloc (.cells sigZ 26) = Y := ⟨_, rfl⟩
          rw [hy14] at Sy14 q16 Zy14 Ky14
          rw [hy14]
          obtain ⟨g15, hg15⟩ : ∃ g, v2.heap.size = g := ⟨_, rfl⟩
          have Lg15 : X.heap.size ≤ g15 := by rw [← hg15]; exact Sv2.size
          have Mg15 : Hid (v2.heap.size = g15) := hide hg15
          rw [hg15] at q16
          rw [hg15]
          have Wy14 := hide Zy14
          have Ny14 := Sy14.size
          clear hy14 hg15 Zy14
          refine wpAnyH_one 12 _ (by kernel_rfl) rfl ?_
          go_wp2
          have Sy17 : Below X.heap.size X (y14.alloc (.cells sg0 31)) := Sy14.alloc Sy14.size _
          have q19 := al1 y14 (.cells sg0 31)
          have Zy17 : y14.heap.size + 1 = (y14.alloc (.cells sg0 31)).heap.size := by simp
          have Ky17 : ∀ k, k < y14.heap.size → (y14.alloc (.cells sg0 31)).heap[k]? = y14.heap[k]? := fun k hk => Below.heap_alloc _ _ _ hk
          refine ⟨Sy17, ?_⟩
          change wpAnyH _ _ _ _ _ _ _ _ (y14.alloc (.cells sg0 31))
          obtain ⟨y17, hy17⟩ : ∃ Y, y14.alloc (.cells sg0 31) = Y := ⟨_, rfl⟩
          rw [hy17] at Sy17 q19 Zy17 Ky17
          rw [hy17]
          obtain ⟨g18, hg18⟩ : ∃ g, y14.heap.size = g := ⟨_, rfl⟩
          have Lg18 : X.heap.size ≤ g18 := by rw [← hg18]; exact Sy14.size
          have Mg18 : Hid (y14.heap.size = g18) := hide hg18
          rw [hg18] at q19
          rw [hg18]
          have Wy17 := hide Zy17
          have Ny17 := Sy17.size
          clear hy17 hg18 Zy17
          have q20 := (Ky17 _ (Array.getElem?_eq_some_iff.1 q16).1).trans q16
          refine wpAnyH_one 14 _ (by kernel_rfl) rfl ?_
          have hz2 := sg0_size seed (unhide Hs) ((x : Int) + 1) (.slice (some ⟨gc, 0, none⟩) 16 cap)
          have hi2 := sgc_info seed (unhide Hs) ((x : Int) + 1) (.slice (some ⟨gc, 0, none⟩) 16 cap)
          have ho2 := sgc_one seed ((x : Int) + 1) (some ⟨gc, 0, none⟩) 16 cap
          obtain ⟨SG, hSG⟩ : ∃ SG, sgc seed ((x : Int) + 1) (.slice (some ⟨gc, 0, none⟩) 16 cap) = SG := ⟨_, rfl⟩
          rw [hSG] at hz2 hi2 ho2
          rw [hSG]
          have HSG := hide hSG
          have hsz := hSc.size
          have hsi := sig_info cs hsz.1
          have hso := hsz.2
          have hsq : sigZ.size = cs.size := by rw [hsz.1]; rfl
          clear hSG hsz
          go_wp2_with (refine wpList_store_row rfl 31 (.tmp 13) (.tmp 25) rfl g18 SG rfl rfl 31 _ q19 hi2 hz2 ho2 ?_)
          have Su21 : Below X.heap.size X (y17.setRow g18 SG) := below_setRow Sy17 Lg18 _
          have ru21 := setRow_heap _ _ _ SG _ _ q19
          have Ku21 : ∀ k, k ≠ g18 → (y17.setRow g18 SG).heap[k]? = y17.heap[k]? := fun k hk => setRow_other _ _ _ _ hk
          have Tu21 : Hid ((y17.setRow g18 SG).heap.size = y17.heap.size) := hide (setRow_size _ _ _)
          obtain ⟨u21, hu21⟩ : ∃ Y, y17.setRow g18 SG = Y := ⟨_, rfl⟩
          rw [hu21] at Su21 ru21 Ku21 Tu21
          rw [hu21]
          clear hu21
          refine ⟨Su21, ?_⟩
          have q22 := (Ku21 _ (by (have := unhide Mg15; have := unhide Wy14; have := unhide Mg18; have := unhide Wy17; omega))).trans q20
          refine wpAnyH_one 15 _ (by kernel_rfl) rfl ?_
          go_wp2_with (refine wpList_store_row rfl 26 (.tmp 14) (.tmp 26) rfl g15 cs rfl rfl 26 _ q22 hsi hsq hso ?_)
          have Su23 : Below X.heap.size X (u21.setRow g15 cs) := below_setRow Su21 Lg15 _
          have ru23 := setRow_heap _ _ _ cs _ _ q22
          have Ku23 : ∀ k, k ≠ g15 → (u21.setRow g15 cs).heap[k]? = u21.heap[k]? := fun k hk => setRow_other _ _ _ _ hk
          have Tu23 : Hid ((u21.setRow g15 cs).heap.size = u21.heap.size) := hide (setRow_size _ _ _)
          obtain ⟨u23, hu23⟩ : ∃ Y, u21.setRow g15 cs = Y := ⟨_, rfl⟩
          rw [hu23] at Su23 ru23 Ku23 Tu23
          rw [hu23]
          clear hu23
          refine ⟨Su23, ?_⟩
          have q24 := (Ku23 _ (by (have := unhide Mg15; have := unhide Wy14; have := unhide Mg18; have := unhide Wy17; have := unhide Tu21; omega))).trans ru21
          refine wpAnyH_one 16 _ (by kernel_rfl) rfl ?_
          go_wp2
          refine ⟨Su23, ?_⟩
          have keep : ∀ k, k < v2.heap.size → k ≠ g18 → k ≠ g15 → u23.heap[k]? = v2.heap[k]? := fun k h1 h2 h3 => ((((Ku23 k (by (first | (have := h1; have := h2; have := h3; have := unhide Mg15; have := unhide Wy14; have := unhide Mg18; have := unhide Wy17; have := unhide Tu21; have := unhide Tu23; omega)))).trans (Ku21 k (by (first | (have := h1; have := h2; have := h3; have := unhide Mg15; have := unhide Wy14; have := unhide Mg18; have := unhide Wy17; have := unhide Tu21; have := unhide Tu23; omega))))).trans (Ky17 k (by (first | (have := h1; have := h2; have := h3; have := unhide Mg15; have := unhide Wy14; have := unhide Mg18; have := unhide Wy17; have := unhide Tu21; have := unhide Tu23; omega))))).trans (Ky14 k (by (first | (have := h1; have := h2; have := h3; have := unhide Mg15; have := unhide Wy14; have := unhide Mg18; have := unhide Wy17; have := unhide Tu21; have := unhide Tu23; omega)))))
          refine wpAnyH_done (by kernel_rfl) ?_ _
          go_wp2
          go_meet
          case rel => exact ⟨g18, g15, gc, cap, cs, rfl, rfl, rfl, by rw [unhide HSG]; exact q24, ru23, DL_at hDc (keep gc (by (have := unhide Mg15; have := unhide Wy14; have := unhide Mg18; have := unhide Wy17; have := unhide Tu21; have := unhide Tu23; omega)) (by (have := unhide Mg15; have := unhide Wy14; have := unhide Mg18; have := unhide Wy17; have := unhide Tu21; have := unhide Tu23; omega)) (by (have := unhide Mg15; have := unhide Wy14; have := unhide Mg18; have := unhide Wy17; have := unhide Tu21; have := unhide Tu23; omega))), ⟨g, gp, by (have := unhide Mg15; have := unhide Wy14; have := unhide Mg18; have := unhide Wy17; have := unhide Tu21; have := unhide Tu23; omega), by (have := unhide Mg15; have := unhide Wy14; have := unhide Mg18; have := unhide Wy17; have := unhide Tu21; have := unhide Tu23; omega), unhide Hcs, (keep g (by (have := unhide Mg15; have := unhide Wy14; have := unhide Mg18; have := unhide Wy17; have := unhide Tu21; have := unhide Tu23; omega)) (by (have := unhide Mg15; have := unhide Wy14; have := unhide Mg18; have := unhide Wy17; have := unhide Tu21; have := unhide Tu23; omega)) (by (have := unhide Mg15; have := unhide Wy14; have := unhide Mg18; have := unhide Wy17; have := unhide Tu21; have := unhide Tu23; omega))).trans t1, (keep (g + 1) (by (have := unhide Mg15; have := unhide Wy14; have := unhide Mg18; have := unhide Wy17; have := unhide Tu21; have := unhide Tu23; omega)) (by (have := unhide Mg15; have := unhide Wy14; have := unhide Mg18; have := unhide Wy17; have := unhide Tu21; have := unhide Tu23; omega)) (by (have := unhide Mg15; have := unhide Wy14; have := unhide Mg18; have := unhide Wy17; have := unhide Tu21; have := unhide Tu23; omega))).trans t2, (keep gp (by (have := unhide Mg15; have := unhide Wy14; have := unhide Mg18; have := unhide Wy17; have := unhide Tu21; have := unhide Tu23; omega)) (by (have := unhide Mg15; have := unhide Wy14; have := unhide Mg18; have := unhide Wy17; have := unhide Tu21; have := unhide Tu23; omega)) (by (have := unhide Mg15; have := unhide Wy14; have := unhide Mg18; have := unhide Wy17; have := unhide Tu21; have := unhide Tu23; omega))).trans t3⟩, Su23, by (have := unhide Mg15; have := unhide Wy14; have := unhide Mg18; have := unhide Wy17; have := unhide Tu21; have := unhide Tu23; omega), by (have := unhide Mg15; have := unhide Wy14; have := unhide Mg18; have := unhide Wy17; have := unhide Tu21; have := unhide Tu23; omega), by (have := unhide Mg15; have := unhide Wy14; have := unhide Mg18; have := unhide Wy17; have := unhide Tu21; have := unhide Tu23; omega)⟩
      · go_wp2
        have Sy25 : Below X.heap.size X (v1.alloc (.cells sg0 31)) := Sv1.alloc Sv1.size _
        have q27 := al1 v1 (.cells sg0 31)
        have Zy25 : v1.heap.size + 1 = (v1.alloc (.cells sg0 31)).heap.size := by simp
        have Ky25 : ∀ k, k < v1.heap.size → (v1.alloc (.cells sg0 31)).heap[k]? = v1.heap[k]? := fun k hk => Below.heap_alloc _ _ _ hk
        refine ⟨Sy25, ?_⟩
        change wpAnyH _ _ _ _ _ _ _ _ (v1.alloc (.cells sg0 31))
        obtain ⟨y25, hy25⟩ : ∃ Y, v1.alloc (.cells sg0 31) = Y := ⟨_, rfl⟩
        rw [hy25] at Sy25 q27 Zy25 Ky25
        rw [hy25]
        obtain ⟨g26, hg26⟩ : ∃ g, v1.heap.size = g := ⟨_, rfl⟩
        have Lg26 : X.heap.size ≤ g26 := by rw [← hg26]; exact Sv1.size
        have Mg26 : Hid (v1.heap.size = g26) := hide hg26
        rw [hg26] at q27
        rw [hg26]
        have Wy25 := hide Zy25
        have Ny25 := Sy25.size
        clear hy25 hg26 Zy25
        refine wpAnyH_two 7 13 _ _ (by kernel_rfl) rfl rfl ?_ ?_
        · go_wp2_with fail
          refine (unhide ks _ ((unhide HD).below Sy25 (Nat.le_refl _)) ((unhide HT).below Sy25 (Nat.le_refl _))).mono ?_
          rintro e v28 ⟨⟨gc, cap, cs, rfl, hgc, hDc, hSc⟩, bv28⟩
          have Sv28 : Below X.heap.size X v28 := Sy25.trans (bv28.mono Sy25.size)
          have Zv28 := bv28.size
          have Nv28 := Sv28.size
          have q29 := Below.at bv28 (Array.getElem?_eq_some_iff.1 q27).1 q27
          have zc := st_lt hds hDc
          obtain ⟨g, gp, hg1, hg2, hcs, t1, t2, t3⟩ := hSc.ex
          have y1 := (Array.getElem?_eq_some_iff.1 t2).1
          have Hcs := hide hcs
          clear hcs
          have y2 := (Array.getElem?_eq_some_iff.1 t3).1
          go_wp2
          refine ⟨Sv28, ?_⟩
          refine wpAnyH_take (i := 8) rfl (by kernel_rfl) (by kernel_rfl) (by kernel_rfl) (fun _ _ _ h => h) (.inl ⟨rfl, fun _ _ => rfl⟩) Sv28 ?_
          refine wpAnyH_take (i := 9) rfl (by kernel_rfl) (by kernel_rfl) (by kernel_rfl) (fun _ _ _ h => h) (.inl ⟨rfl, fun _ _ => rfl⟩) Sv28 ?_
          refine wpAnyH_take (i := 10) rfl (by kernel_rfl) (by kernel_rfl) (by kernel_rfl) (fun _ _ _ h => h) (.inl ⟨rfl, fun _ _ => rfl⟩) Sv28 ?_
          refine wpAnyH_take (i := 11) rfl (by kernel_rfl) (by kernel_rfl) (by kernel_rfl) (fun _ _ _ h => h) (.inl ⟨rfl, fun _ _ => rfl⟩) Sv28 ?_
          refine wpAnyH_one 13 _ (by kernel_rfl) rfl ?_
          go_wp2
          have Sy30 : Below X.heap.size X (v28.alloc (.cells sigZ 26)) := Sv28.alloc Sv28.size _
          have q32 := al1 v28 (.cells sigZ 26)
          have Zy30 : v28.heap.size + 1 = (v28.alloc (.cells sigZ 26)).heap.size := by simp
          have Ky30 : ∀ k, k < v28.heap.size → (v28.alloc (.cells sigZ 26)).heap[k]? = v28.heap[k]? := fun k hk => Below.heap_alloc _ _ _ hk
          refine ⟨Sy30, ?_⟩
          change wpAnyH _ _ _ _ _ _ _ _ (v28.alloc (.cells sigZ 26))
          obtain ⟨y30, hy30⟩ : ∃ Y, v28.alloc (.cells sigZ 26) = Y := ⟨_, rfl⟩
          rw [hy30] at Sy30 q32 Zy30 Ky30
          rw [hy30]
          obtain ⟨g31, hg31⟩ : ∃ g, v28.heap.size = g := ⟨_, rfl⟩
          have Lg31 : X.heap.size ≤ g31 := by rw [← hg31]; exact Sv28.size
          have Mg31 : Hid (v28.heap.size = g31) := hide hg31
          rw [hg31] at q32
          rw [hg31]
          have Wy30 := hide Zy30
          have Ny30 := Sy30.size
          clear hy30 hg31 Zy30
          have q33 := (Ky30 _ (Array.getElem?_eq_some_iff.1 q29).1).trans q29
          refine wpAnyH_one 14 _ (by kernel_rfl) rfl ?_
          have hz2 := sg0_size seed (unhide Hs) ((x : Int) + 1) (.slice (some ⟨gc, 0, none⟩) 16 cap)
          have hi2 := sgc_info seed (unhide Hs) ((x : Int) + 1) (.slice (some ⟨gc, 0, none⟩) 16 cap)
          have ho2 := sgc_one seed ((x : Int) + 1) (some ⟨gc, 0, none⟩) 16 cap
          obtain ⟨SG, hSG⟩ : ∃ SG, sgc seed ((x : Int) + 1) (.slice (some ⟨gc, 0, none⟩) 16 cap) = SG := ⟨_, rfl⟩
          rw [hSG] at hz2 hi2 ho2
          rw [hSG]
          have HSG := hide hSG
          have hsz := hSc.size
          have hsi := sig_info cs hsz.1
          have hso := hsz.2
          have hsq : sigZ.size = cs.size := by rw [hsz.1]; rfl
          clear hSG hsz
          go_wp2_with (refine wpList_store_row rfl 31 (.tmp 13) (.tmp 25) rfl g26 SG rfl rfl 31 _ q33 hi2 hz2 ho2 ?_)
          have Su34 : Below X.heap.size X (y30.setRow g26 SG) := below_setRow Sy30 Lg26 _
          have ru34 := setRow_heap _ _ _ SG _ _ q33
          have Ku34 : ∀ k, k ≠ g26 → (y30.setRow g26 SG).heap[k]? = y30.heap[k]? := fun k hk => setRow_other _ _ _ _ hk
          have Tu34 : Hid ((y30.setRow g26 SG).heap.size = y30.heap.size) := hide (setRow_size _ _ _)
          obtain ⟨u34, hu34⟩ : ∃ Y, y30.setRow g26 SG = Y := ⟨_, rfl⟩
          rw [hu34] at Su34 ru34 Ku34 Tu34
          rw [hu34]
          clear hu34
          refine ⟨Su34, ?_⟩
          have q35 := (Ku34 _ (by (have := unhide Mg26; have := unhide Wy25; have := unhide Mg31; have := unhide Wy30; omega))).trans q32
          refine wpAnyH_one 15 _ (by kernel_rfl) rfl ?_
          go_wp2_with (refine wpList_store_row rfl 26 (.tmp 14) (.tmp 26) rfl g31 cs rfl rfl 26 _ q35 hsi hsq hso ?_)
          have Su36 : Below X.heap.size X (u34.setRow g31 cs) := below_setRow Su34 Lg31 _
          have ru36 := setRow_heap _ _ _ cs _ _ q35
          have Ku36 : ∀ k, k ≠ g31 → (u34.setRow g31 cs).heap[k]? = u34.heap[k]? := fun k hk => setRow_other _ _ _ _ hk
          have Tu36 : Hid ((u34.setRow g31 cs).heap.size = u34.heap.size) := hide (setRow_size _ _ _)
          obtain ⟨u36, hu36⟩ : ∃ Y, u34.setRow g31 cs = Y := ⟨_, rfl⟩
          rw [hu36] at Su36 ru36 Ku36 Tu36
          rw [hu36]
          clear hu36
          refine ⟨Su36, ?_⟩
          have q37 := (Ku36 _ (by (have := unhide Mg26; have := unhide Wy25; have := unhide Mg31; have := unhide Wy30; have := unhide Tu34; omega))).trans ru34
          refine wpAnyH_one 16 _ (by kernel_rfl) rfl ?_
          go_wp2
          refine ⟨Su36, ?_⟩
          have keep : ∀ k, k < v28.heap.size → k ≠ g26 → k ≠ g31 → u36.heap[k]? = v28.heap[k]? := fun k h1 h2 h3 => (((Ku36 k (by (first | (have := h1; have := h2; have := h3; have := unhide Mg26; have := unhide Wy25; have := unhide Mg31; have := unhide Wy30; have := unhide Tu34; have := unhide Tu36; omega)))).trans (Ku34 k (by (first | (have := h1; have := h2; have := h3; have := unhide Mg26; have := unhide Wy25; have := unhide Mg31; have := unhide Wy30; have := unhide Tu34; have := unhide Tu36; omega))))).trans (Ky30 k (by (first | (have := h1; have := h2; have := h3; have := unhide Mg26; have := unhide Wy25; have := unhide Mg31; have := unhide Wy30; have := unhide Tu34; have := unhide Tu36; omega)))))
          refine wpAnyH_done (by kernel_rfl) ?_ _
          go_wp2
          go_meet
          case rel => exact ⟨g26, g31, gc, cap, cs, rfl, rfl, rfl, by rw [unhide HSG]; exact q37, ru36, DL_at hDc (keep gc (by (have := unhide Mg26; have := unhide Wy25; have := unhide Mg31; have := unhide Wy30; have := unhide Tu34; have := unhide Tu36; omega)) (by (have := unhide Mg26; have := unhide Wy25; have := unhide Mg31; have := unhide Wy30; have := unhide Tu34; have := unhide Tu36; omega)) (by (have := unhide Mg26; have := unhide Wy25; have := unhide Mg31; have := unhide Wy30; have := unhide Tu34; have := unhide Tu36; omega))), ⟨g, gp, by (have := unhide Mg26; have := unhide Wy25; have := unhide Mg31; have := unhide Wy30; have := unhide Tu34; have := unhide Tu36; omega), by (have := unhide Mg26; have := unhide Wy25; have := unhide Mg31; have := unhide Wy30; have := unhide Tu34; have := unhide Tu36; omega), unhide Hcs, (keep g (by (have := unhide Mg26; have := unhide Wy25; have := unhide Mg31; have := unhide Wy30; have := unhide Tu34; have := unhide Tu36; omega)) (by (have := unhide Mg26; have := unhide Wy25; have := unhide Mg31; have := unhide Wy30; have := unhide Tu34; have := unhide Tu36; omega)) (by (have := unhide Mg26; have := unhide Wy25; have := unhide Mg31; have := unhide Wy30; have := unhide Tu34; have := unhide Tu36; omega))).trans t1, (keep (g + 1) (by (have := unhide Mg26; have := unhide Wy25; have := unhide Mg31; have := unhide Wy30; have := unhide Tu34; have := unhide Tu36; omega)) (by (have := unhide Mg26; have := unhide Wy25; have := unhide Mg31; have := unhide Wy30; have := unhide Tu34; have := unhide Tu36; omega)) (by (have := unhide Mg26; have := unhide Wy25; have := unhide Mg31; have := unhide Wy30; have := unhide Tu34; have := unhide Tu36; omega))).trans t2, (keep gp (by (have := unhide Mg26; have := unhide Wy25; have := unhide Mg31; have := unhide Wy30; have := unhide Tu34; have := unhide Tu36; omega)) (by (have := unhide Mg26; have := unhide Wy25; have := unhide Mg31; have := unhide Wy30; have := unhide Tu34; have := unhide Tu36; omega)) (by (have := unhide Mg26; have := unhide Wy25; have := unhide Mg31; have := unhide Wy30; have := unhide Tu34; have := unhide Tu36; omega))).trans t3⟩, Su36, by (have := unhide Mg26; have := unhide Wy25; have := unhide Mg31; have := unhide Wy30; have := unhide Tu34; have := unhide Tu36; omega), by (have := unhide Mg26; have := unhide Wy25; have := unhide Mg31; have := unhide Wy30; have := unhide Tu34; have := unhide Tu36; omega), by (have := unhide Mg26; have := unhide Wy25; have := unhide Mg31; have := unhide Wy30; have := unhide Tu34; have := unhide Tu36; omega)⟩
        · go_wp2
          have Sy38 : Below X.heap.size X (y25.alloc (.cells sigZ 26)) := Sy25.alloc Sy25.size _
          have q40 := al1 y25 (.cells sigZ 26)
          have Zy38 : y25.heap.size + 1 = (y25.alloc (.cells sigZ 26)).heap.size := by simp
          have Ky38 : ∀ k, k < y25.heap.size → (y25.alloc (.cells sigZ 26)).heap[k]? = y25.heap[k]? := fun k hk => Below.heap_alloc _ _ _ hk
          refine ⟨Sy38, ?_⟩
          change wpAnyH _ _ _ _ _ _ _ _ (y25.alloc (.cells sigZ 26))
          obtain ⟨y38, hy38⟩ : ∃ Y, y25.alloc (.cells sigZ 26) = Y := ⟨_, rfl⟩
          rw [hy38] at Sy38 q40 Zy38 Ky38
          rw [hy38]
          obtain ⟨g39, hg39⟩ : ∃ g, y25.heap.size = g := ⟨_, rfl⟩
          have Lg39 : X.heap.size ≤ g39 := by rw [← hg39]; exact Sy25.size
          have Mg39 : Hid (y25.heap.size = g39) := hide hg39
          rw [hg39] at q40
          rw [hg39]
          have Wy38 := hide Zy38
          have Ny38 := Sy38.size
          clear hy38 hg39 Zy38
          have q41 := (Ky38 _ (Array.getElem?_eq_some_iff.1 q27).1).trans q27
          refine wpAnyH_one 7 _ (by kernel_rfl) rfl ?_
          go_wp2_with fail
          refine (unhide ks _ ((unhide HD).below Sy38 (Nat.le_refl _)) ((unhide HT).below Sy38 (Nat.le_refl _))).mono ?_
          rintro e v42 ⟨⟨gc, cap, cs, rfl, hgc, hDc, hSc⟩, bv42⟩
          have Sv42 : Below X.heap.size X v42 := Sy38.trans (bv42.mono Sy38.size)
          have Zv42 := bv42.size
          have Nv42 := Sv42.size
          have q43 := Below.at bv42 (Array.getElem?_eq_some_iff.1 q41).1 q41
          have q44 := Below.at bv42 (Array.getElem?_eq_some_iff.1 q40).1 q40
          have zc := st_lt hds hDc
          obtain ⟨g, gp, hg1, hg2, hcs, t1, t2, t3⟩ := hSc.ex
          have y1 := (Array.getElem?_eq_some_iff.1 t2).1
          have Hcs := hide hcs
          clear hcs
          have y2 := (Array.getElem?_eq_some_iff.1 t3).1
          go_wp2
          refine ⟨Sv42, ?_⟩
          refine wpAnyH_take (i := 8) rfl (by kernel_rfl) (by kernel_rfl) (by kernel_rfl) (fun _ _ _ h => h) (.inl ⟨rfl, fun _ _ => rfl⟩) Sv42 ?_
          refine wpAnyH_take (i := 9) rfl (by kernel_rfl) (by kernel_rfl) (by kernel_rfl) (fun _ _ _ h => h) (.inl ⟨rfl, fun _ _ => rfl⟩) Sv42 ?_
          refine wpAnyH_take (i := 10) rfl (by kernel_rfl) (by kernel_rfl) (by kernel_rfl) (fun _ _ _ h => h) (.inl ⟨rfl, fun _ _ => rfl⟩) Sv42 ?_
          refine wpAnyH_take (i := 11) rfl (by kernel_rfl) (by kernel_rfl) (by kernel_rfl) (fun _ _ _ h => h) (.inl ⟨rfl, fun _ _ => rfl⟩) Sv42 ?_
          refine wpAnyH_one 14 _ (by kernel_rfl) rfl ?_
          have hz2 := sg0_size seed (unhide Hs) ((x : Int) + 1) (.slice (some ⟨gc, 0, none⟩) 16 cap)
          have hi2 := sgc_info seed (unhide Hs) ((x : Int) + 1) (.slice (some ⟨gc, 0, none⟩) 16 cap)
          have ho2 := sgc_one seed ((x : Int) + 1) (some ⟨gc, 0, none⟩) 16 cap
          obtain ⟨SG, hSG⟩ : ∃ SG, sgc seed ((x : Int) + 1) (.slice (some ⟨gc, 0, none⟩) 16 cap) = SG := ⟨_, rfl⟩
          rw [hSG] at hz2 hi2 ho2
          rw [hSG]
          have HSG := hide hSG
          have hsz := hSc.size
          have hsi := sig_info cs hsz.1
          have hso := hsz.2
          have hsq : sigZ.size = cs.size := by rw [hsz.1]; rfl
          clear hSG hsz
          go_wp2_with (refine wpList_store_row rfl 31 (.tmp 13) (.tmp 25) rfl g26 SG rfl rfl 31 _ q43 hi2 hz2 ho2 ?_)
          have Su45 : Below X.heap.size X (v42.setRow g26 SG) := below_setRow Sv42 Lg26 _
          have ru45 := setRow_heap _ _ _ SG _ _ q43
          have Ku45 : ∀ k, k ≠ g26 → (v42.setRow g26 SG).heap[k]? = v42.heap[k]? := fun k hk => setRow_other _ _ _ _ hk
          have Tu45 : Hid ((v42.setRow g26 SG).heap.size = v42.heap.size) := hide (setRow_size _ _ _)
          obtain ⟨u45, hu45⟩ : ∃ Y, v42.setRow g26 SG = Y := ⟨_, rfl⟩
          rw [hu45] at Su45 ru45 Ku45 Tu45
          rw [hu45]
          clear hu45
          refine ⟨Su45, ?_⟩
          have q46 := (Ku45 _ (by (have := unhide Mg26; have := unhide Wy25; have := unhide Mg39; have := unhide Wy38; omega))).trans q44
          refine wpAnyH_one 15 _ (by kernel_rfl) rfl ?_
          go_wp2_with (refine wpList_store_row rfl 26 (.tmp 14) (.tmp 26) rfl g39 cs rfl rfl 26 _ q46 hsi hsq hso ?_)
          have Su47 : Below X.heap.size X (u45.setRow g39 cs) := below_setRow Su45 Lg39 _
          have ru47 := setRow_heap _ _ _ cs _ _ q46
          have Ku47 : ∀ k, k ≠ g39 → (u45.setRow g39 cs).heap[k]? = u45.heap[k]? := fun k hk => setRow_other _ _ _ _ hk
          have Tu47 : Hid ((u45.setRow g39 cs).heap.size = u45.heap.size) := hide (setRow_size _ _ _)
          obtain ⟨u47, hu47⟩ : ∃ Y, u45.setRow g39 cs = Y := ⟨_, rfl⟩
          rw [hu47] at Su47 ru47 Ku47 Tu47
          rw [hu47]
          clear hu47
          refine ⟨Su47, ?_⟩
          have q48 := (Ku47 _ (by (have := unhide Mg26; have := unhide Wy25; have := unhide Mg39; have := unhide Wy38; have := unhide Tu45; omega))).trans ru45
          refine wpAnyH_one 16 _ (by kernel_rfl) rfl ?_
          go_wp2
          refine ⟨Su47, ?_⟩
          have keep : ∀ k, k < v42.heap.size → k ≠ g26 → k ≠ g39 → u47.heap[k]? = v42.heap[k]? := fun k h1 h2 h3 => ((Ku47 k (by (first | (have := h1; have := h2; have := h3; have := unhide Mg26; have := unhide Wy25; have := unhide Mg39; have := unhide Wy38; have := unhide Tu45; have := unhide Tu47; omega)))).trans (Ku45 k (by (first | (have := h1; have := h2; have := h3; have := unhide Mg26; have := unhide Wy25; have := unhide Mg39; have := unhide Wy38; have := unhide Tu45; have := unhide Tu47; omega)))))
          refine wpAnyH_done (by kernel_rfl) ?_ _
          go_wp2
          go_meet
          case rel => exact ⟨g26, g39, gc, cap, cs, rfl, rfl, rfl, by rw [unhide HSG]; exact q48, ru47, DL_at hDc (keep gc (by (have := unhide Mg26; have := unhide Wy25; have := unhide Mg39; have := unhide Wy38; have := unhide Tu45; have := unhide Tu47; omega)) (by (have := unhide Mg26; have := unhide Wy25; have := unhide Mg39; have := unhide Wy38; have := unhide Tu45; have := unhide Tu47; omega)) (by (have := unhide Mg26; have := unhide Wy25; have := unhide Mg39; have := unhide Wy38; have := unhide Tu45; have := unhide Tu47; omega))), ⟨g, gp, by (have := unhide Mg26; have := unhide Wy25; have := unhide Mg39; have := unhide Wy38; have := unhide Tu45; have := unhide Tu47; omega), by (have := unhide Mg26; have := unhide Wy25; have := unhide Mg39; have := unhide Wy38; have := unhide Tu45; have := unhide Tu47; omega), unhide Hcs, (keep g (by (have := unhide Mg26; have := unhide Wy25; have := unhide Mg39; have := unhide Wy38; have := unhide Tu45; have := unhide Tu47; omega)) (by (have := unhide Mg26; have := unhide Wy25; have := unhide Mg39; have := unhide Wy38; have := unhide Tu45; have := unhide Tu47; omega)) (by (have := unhide Mg26; have := unhide Wy25; have := unhide Mg39; have := unhide Wy38; have := unhide Tu45; have := unhide Tu47; omega))).trans t1, (keep (g + 1) (by (have := unhide Mg26; have := unhide Wy25; have := unhide Mg39; have := unhide Wy38; have := unhide Tu45; have := unhide Tu47; omega)) (by (have := unhide Mg26; have := unhide Wy25; have := unhide Mg39; have := unhide Wy38; have := unhide Tu45; have := unhide Tu47; omega)) (by (have := unhide Mg26; have := unhide Wy25; have := unhide Mg39; have := unhide Wy38; have := unhide Tu45; have := unhide Tu47; omega))).trans t2, (keep gp (by (have := unhide Mg26; have := unhide Wy25; have := unhide Mg39; have := unhide Wy38; have := unhide Tu45; have := unhide Tu47; omega)) (by (have := unhide Mg26; have := unhide Wy25; have := unhide Mg39; have := unhide Wy38; have := unhide Tu45; have := unhide Tu47; omega)) (by (have := unhide Mg26; have := unhide Wy25; have := unhide Mg39; have := unhide Wy38; have := unhide Tu45; have := unhide Tu47; omega))).trans t3⟩, Su47, by (have := unhide Mg26; have := unhide Wy25; have := unhide Mg39; have := unhide Wy38; have := unhide Tu45; have := unhide Tu47; omega), by (have := unhide Mg26; have := unhide Wy25; have := unhide Mg39; have := unhide Wy38; have := unhide Tu45; have := unhide Tu47; omega), by (have := unhide Mg26; have := unhide Wy25; have := unhide Mg39; have := unhide Wy38; have := unhide Tu45; have := unhide Tu47; omega)⟩
      · go_wp2
        have Sy49 : Below X.heap.size X (v1.alloc (.cells sigZ 26)) := Sv1.alloc Sv1.size _
        have q51 := al1 v1 (.cells sigZ 26)
        have Zy49 : v1.heap.size + 1 = (v1.alloc (.cells sigZ 26)).heap.size := by simp
        have Ky49 : ∀ k, k < v1.heap.size → (v1.alloc (.cells sigZ 26)).heap[k]? = v1.heap[k]? := fun k hk => Below.heap_alloc _ _ _ hk
        refine ⟨Sy49, ?_⟩
        change wpAnyH _ _ _ _ _ _ _ _ (v1.alloc (.cells sigZ 26))
        obtain ⟨y49, hy49⟩ : ∃ Y, v1.alloc (.cells sigZ 26) = Y := ⟨_, rfl⟩
        rw [hy49] at Sy49 q51 Zy49 Ky49
        rw [hy49]
        obtain ⟨g50, hg50⟩ : ∃ g, v1.heap.size = g := ⟨_, rfl⟩
        have Lg50 : X.heap.size ≤ g50 := by rw [← hg50]; exact Sv1.size
        have Mg50 : Hid (v1.heap.size = g50) := hide hg50
        rw [hg50] at q51
        rw [hg50]
        have Wy49 := hide Zy49
        have Ny49 := Sy49.size
        clear hy49 hg50 Zy49
        refine wpAnyH_two 7 12 _ _ (by kernel_rfl) rfl rfl ?_ ?_
        · go_wp2_with fail
          refine (unhide ks _ ((unhide HD).below Sy49 (Nat.le_refl _)) ((unhide HT).below Sy49 (Nat.le_refl _))).mono ?_
          rintro e v52 ⟨⟨gc, cap, cs, rfl, hgc, hDc, hSc⟩, bv52⟩
          have Sv52 : Below X.heap.size X v52 := Sy49.trans (bv52.mono Sy49.size)
          have Zv52 := bv52.size
          have Nv52 := Sv52.size
          have q53 := Below.at bv52 (Array.getElem?_eq_some_iff.1 q51).1 q51
          have zc := st_lt hds hDc
          obtain ⟨g, gp, hg1, hg2, hcs, t1, t2, t3⟩ := hSc.ex
          have y1 := (Array.getElem?_eq_some_iff.1 t2).1
          have Hcs := hide hcs
          clear hcs
          have y2 := (Array.getElem?_eq_some_iff.1 t3).1
          go_wp2
          refine ⟨Sv52, ?_⟩
          refine wpAnyH_take (i := 8) rfl (by kernel_rfl) (by kernel_rfl) (by kernel_rfl) (fun _ _ _ h => h) (.inl ⟨rfl, fun _ _ => rfl⟩) Sv52 ?_
          refine wpAnyH_take (i := 9) rfl (by kernel_rfl) (by kernel_rfl) (by kernel_rfl) (fun _ _ _ h => h) (.inl ⟨rfl, fun _ _ => rfl⟩) Sv52 ?_
          refine wpAnyH_take (i := 10) rfl (by kernel_rfl) (by kernel_rfl) (by kernel_rfl) (fun _ _ _ h => h) (.inl ⟨rfl, fun _ _ => rfl⟩) Sv52 ?_
          refine wpAnyH_take (i := 11) rfl (by kernel_rfl) (by kernel_rfl) (by kernel_rfl) (fun _ _ _ h => h) (.inl ⟨rfl, fun _ _ => rfl⟩) Sv52 ?_
          refine wpAnyH_one 12 _ (by kernel_rfl) rfl ?_
          go_wp2
          have Sy54 : Below X.heap.size X (v52.alloc (.cells sg0 31)) := Sv52.alloc Sv52.size _
          have q56 := al1 v52 (.cells sg0 31)
          have Zy54 : v52.heap.size + 1 = (v52.alloc (.cells sg0 31)).heap.size := by simp
          have Ky54 : ∀ k, k < v52.heap.size → (v52.alloc (.cells sg0 31)).heap[k]? = v52.heap[k]? := fun k hk => Below.heap_alloc _ _ _ hk
          refine ⟨Sy54, ?_⟩
          change wpAnyH _ _ _ _ _ _ _ _ (v52.alloc (.cells sg0 31))
          obtain ⟨y54, hy54⟩ : ∃ Y, v52.alloc (.cells sg0 31) = Y := ⟨_, rfl⟩
          rw [hy54] at Sy54 q56 Zy54 Ky54
          rw [hy54]
          obtain ⟨g55, hg55⟩ : ∃ g, v52.heap.size = g := ⟨_, rfl⟩
          have Lg55 : X.heap.size ≤ g55 := by rw [← hg55]; exact Sv52.size
          have Mg55 : Hid (v52.heap.size = g55) := hide hg55
          rw [hg55] at q56
          rw [hg55]
          have Wy54 := hide Zy54
          have Ny54 := Sy54.size
          clear hy54 hg55 Zy54
          have q57 := (Ky54 _ (Array.getElem?_eq_some_iff.1 q53).1).trans q53
          refine wpAnyH_one 14 _ (by kernel_rfl) rfl ?_
          have hz2 := sg0_size seed (unhide Hs) ((x : Int) + 1) (.slice (some ⟨gc, 0, none⟩) 16 cap)
          have hi2 := sgc_info seed (unhide Hs) ((x : Int) + 1) (.slice (some ⟨gc, 0, none⟩) 16 cap)
          have ho2 := sgc_one seed ((x : Int) + 1) (some ⟨gc, 0, none⟩) 16 cap
          obtain ⟨SG, hSG⟩ : ∃ SG, sgc seed ((x : Int) + 1) (.slice (some ⟨gc, 0, none⟩) 16 cap) = SG := ⟨_, rfl⟩
          rw [hSG] at hz2 hi2 ho2
          rw [hSG]
          have HSG := hide hSG
          have hsz := hSc.size
          have hsi := sig_info cs hsz.1
          have hso := hsz.2
          have hsq : sigZ.size = cs.size := by rw [hsz.1]; rfl
          clear hSG hsz
          go_wp2_with (refine wpList_store_row rfl 31 (.tmp 13) (.tmp 25) rfl g55 SG rfl rfl 31 _ q56 hi2 hz2 ho2 ?_)
          have Su58 : Below X.heap.size X (y54.setRow g55 SG) := below_setRow Sy54 Lg55 _
          have ru58 := setRow_heap _ _ _ SG _ _ q56
          have Ku58 : ∀ k, k ≠ g55 → (y54.setRow g55 SG).heap[k]? = y54.heap[k]? := fun k hk => setRow_other _ _ _ _ hk
          have Tu58 : Hid ((y54.setRow g55 SG).heap.size = y54.heap.size) := hide (setRow_size _ _ _)
          obtain ⟨u58, hu58⟩ : ∃ Y, y54.setRow g55 SG = Y := ⟨_, rfl⟩
          rw [hu58] at Su58 ru58 Ku58 Tu58
          rw [hu58]
          clear hu58
          refine ⟨Su58, ?_⟩
          have q59 := (Ku58 _ (by (have := unhide Mg50; have := unhide Wy49; have := unhide Mg55; have := unhide Wy54; omega))).trans q57
          refine wpAnyH_one 15 _ (by kernel_rfl) rfl ?_
          go_wp2_with (refine wpList_store_row rfl 26 (.tmp 14) (.tmp 26) rfl g50 cs rfl rfl 26 _ q59 hsi hsq hso ?_)
          have Su60 : Below X.heap.size X (u58.setRow g50 cs) := below_setRow Su58 Lg50 _
          have ru60 := setRow_heap _ _ _ cs _ _ q59
          have Ku60 : ∀ k, k ≠ g50 → (u58.setRow g50 cs).heap[k]? = u58.heap[k]? := fun k hk => setRow_other _ _ _ _ hk
          have Tu60 : Hid ((u58.setRow g50 cs).heap.size = u58.heap.size) := hide (setRow_size _ _ _)
          obtain ⟨u60, hu60⟩ : ∃ Y, u58.setRow g50 cs = Y := ⟨_, rfl⟩
          rw [hu60] at Su60 ru60 Ku60 Tu60
          rw [hu60]
          clear hu60
          refine ⟨Su60, ?_⟩
          have q61 := (Ku60 _ (by (have := unhide Mg50; have := unhide Wy49; have := unhide Mg55; have := unhide Wy54; have := unhide Tu58; omega))).trans ru58
          refine wpAnyH_one 16 _ (by kernel_rfl) rfl ?_
          go_wp2
          refine ⟨Su60, ?_⟩
          have keep : ∀ k, k < v52.heap.size → k ≠ g55 → k ≠ g50 → u60.heap[k]? = v52.heap[k]? := fun k h1 h2 h3 => (((Ku60 k (by (first | (have := h1; have := h2; have := h3; have := unhide Mg50; have := unhide Wy49; have := unhide Mg55; have := unhide Wy54; have := unhide Tu58; have := unhide Tu60; omega)))).trans (Ku58 k (by (first | (have := h1; have := h2; have := h3; have := unhide Mg50; have := unhide Wy49; have := unhide Mg55; have := unhide Wy54; have := unhide Tu58; have := unhide Tu60; omega))))).trans (Ky54 k (by (first | (have := h1; have := h2; have := h3; have := unhide Mg50; have := unhide Wy49; have := unhide Mg55; have := unhide Wy54; have := unhide Tu58; have := unhide Tu60; omega)))))
          refine wpAnyH_done (by kernel_rfl) ?_ _
          go_wp2
          go_meet
          case rel => exact ⟨g55, g50, gc, cap, cs, rfl, rfl, rfl, by rw [unhide HSG]; exact q61, ru60, DL_at hDc (keep gc (by (have := unhide Mg50; have := unhide Wy49; have := unhide Mg55; have := unhide Wy54; have := unhide Tu58; have := unhide Tu60; omega)) (by (have := unhide Mg50; have := unhide Wy49; have := unhide Mg55; have := unhide Wy54; have := unhide Tu58; have := unhide Tu60; omega)) (by (have := unhide Mg50; have := unhide Wy49; have := unhide Mg55; have := unhide Wy54; have := unhide Tu58; have := unhide Tu60; omega))), ⟨g, gp, by (have := unhide Mg50; have := unhide Wy49; have := unhide Mg55; have := unhide Wy54; have := unhide Tu58; have := unhide Tu60; omega), by (have := unhide Mg50; have := unhide Wy49; have := unhide Mg55; have := unhide Wy54; have := unhide Tu58; have := unhide Tu60; omega), unhide Hcs, (keep g (by (have := unhide Mg50; have := unhide Wy49; have := unhide Mg55; have := unhide Wy54; have := unhide Tu58; have := unhide Tu60; omega)) (by (have := unhide Mg50; have := unhide Wy49; have := unhide Mg55; have := unhide Wy54; have := unhide Tu58; have := unhide Tu60; omega)) (by (have := unhide Mg50; have := unhide Wy49; have := unhide Mg55; have := unhide Wy54; have := unhide Tu58; have := unhide Tu60; omega))).trans t1, (keep (g + 1) (by (have := unhide Mg50; have := unhide Wy49; have := unhide Mg55; have := unhide Wy54; have := unhide Tu58; have := unhide Tu60; omega)) (by (have := unhide Mg50; have := unhide Wy49; have := unhide Mg55; have := unhide Wy54; have := unhide Tu58; have := unhide Tu60; omega)) (by (have := unhide Mg50; have := unhide Wy49; have := unhide Mg55; have := unhide Wy54; have := unhide Tu58; have := unhide Tu60; omega))).trans t2, (keep gp (by (have := unhide Mg50; have := unhide Wy49; have := unhide Mg55; have := unhide Wy54; have := unhide Tu58; have := unhide Tu60; omega)) (by (have := unhide Mg50; have := unhide Wy49; have := unhide Mg55; have := unhide Wy54; have := unhide Tu58; have := unhide Tu60; omega)) (by (have := unhide Mg50; have := unhide Wy49; have := unhide Mg55; have := unhide Wy54; have := unhide Tu58; have := unhide Tu60; omega))).trans t3⟩, Su60, by (have := unhide Mg50; have := unhide Wy49; have := unhide Mg55; have := unhide Wy54; have := unhide Tu58; have := unhide Tu60; omega), by (have := unhide Mg50; have := unhide Wy49; have := unhide Mg55; have := unhide Wy54; have := unhide Tu58; have := unhide Tu60; omega), by (have := unhide Mg50; have := unhide Wy49; have := unhide Mg55; have := unhide Wy54; have := unhide Tu58; have := unhide Tu60; omega)⟩
        · go_wp2
          have Sy62 : Below X.heap.size X (y49.alloc (.cells sg0 31)) := Sy49.alloc Sy49.size _
          have q64 := al1 y49 (.cells sg0 31)
          have Zy62 : y49.heap.size + 1 = (y49.alloc (.cells sg0 31)).heap.size := by simp
          have Ky62 : ∀ k, k < y49.heap.size → (y49.alloc (.cells sg0 31)).heap[k]? = y49.heap[k]? := fun k hk => Below.heap_alloc _ _ _ hk
          refine ⟨Sy62, ?_⟩
          change wpAnyH _ _ _ _ _ _ _ _ (y49.alloc (.cells sg0 31))
          obtain ⟨y62, hy62⟩ : ∃ Y, y49.alloc (.cells sg0 31) = Y := ⟨_, rfl⟩
          rw [hy62] at Sy62 q64 Zy62 Ky62
          rw [hy62]
          obtain ⟨g63, hg63⟩ : ∃ g, y49.heap.size = g := ⟨_, rfl⟩
          have Lg63 : X.heap.size ≤ g63 := by rw [← hg63]; exact Sy49.size
          have Mg63 : Hid (y49.heap.size = g63) := hide hg63
          rw [hg63] at q64
          rw [hg63]
          have Wy62 := hide Zy62
          have Ny62 := Sy62.size
          clear hy62 hg63 Zy62
          have q65 := (Ky62 _ (Array.getElem?_eq_some_iff.1 q51).1).trans q51
          refine wpAnyH_one 7 _ (by kernel_rfl) rfl ?_
          go_wp2_with fail
          refine (unhide ks _ ((unhide HD).below Sy62 (Nat.le_refl _)) ((unhide HT).below Sy62 (Nat.le_refl _))).mono ?_
          rintro e v66 ⟨⟨gc, cap, cs, rfl, hgc, hDc, hSc⟩, bv66⟩
          have Sv66 : Below X.heap.size X v66 := Sy62.trans (bv66.mono Sy62.size)
          have Zv66 := bv66.size
          have Nv66 := Sv66.size
          have q67 := Below.at bv66 (Array.getElem?_eq_some_iff.1 q64).1 q64
          have q68 := Below.at bv66 (Array.getElem?_eq_some_iff.1 q65).1 q65
          have zc := st_lt hds hDc
          obtain ⟨g, gp, hg1, hg2, hcs, t1, t2, t3⟩ := hSc.ex
          have y1 := (Array.getElem?_eq_some_iff.1 t2).1
          have Hcs := hide hcs
          clear hcs
          have y2 := (Array.getElem?_eq_some_iff.1 t3).1
          go_wp2
          refine ⟨Sv66, ?_⟩
          refine wpAnyH_take (i := 8) rfl (by kernel_rfl) (by kernel_rfl) (by kernel_rfl) (fun _ _ _ h => h) (.inl ⟨rfl, fun _ _ => rfl⟩) Sv66 ?_
          refine wpAnyH_take (i := 9) rfl (by kernel_rfl) (by kernel_rfl) (by kernel_rfl) (fun _ _ _ h => h) (.inl ⟨rfl, fun _ _ => rfl⟩) Sv66 ?_
          refine wpAnyH_take (i := 10) rfl (by kernel_rfl) (by kernel_rfl) (by kernel_rfl) (fun _ _ _ h => h) (.inl ⟨rfl, fun _ _ => rfl⟩) Sv66 ?_
          refine wpAnyH_take (i := 11) rfl (by kernel_rfl) (by kernel_rfl) (by kernel_rfl) (fun _ _ _ h => h) (.inl ⟨rfl, fun _ _ => rfl⟩) Sv66 ?_
          refine wpAnyH_one 14 _ (by kernel_rfl) rfl ?_
          have hz2 := sg0_size seed (unhide Hs) ((x : Int) + 1) (.slice (some ⟨gc, 0, none⟩) 16 cap)
          have hi2 := sgc_info seed (unhide Hs) ((x : Int) + 1) (.slice (some ⟨gc, 0, none⟩) 16 cap)
          have ho2 := sgc_one seed ((x : Int) + 1) (some ⟨gc, 0, none⟩) 16 cap
          obtain ⟨SG, hSG⟩ : ∃ SG, sgc seed ((x : Int) + 1) (.slice (some ⟨gc, 0, none⟩) 16 cap) = SG := ⟨_, rfl⟩
          rw [hSG] at hz2 hi2 ho2
          rw [hSG]
          have HSG := hide hSG
          have hsz := hSc.size
          have hsi := sig_info cs hsz.1
          have hso := hsz.2
          have hsq : sigZ.size = cs.size := by rw [hsz.1]; rfl
          clear hSG hsz
          go_wp2_with (refine wpList_store_row rfl 31 (.tmp 13) (.tmp 25) rfl g63 SG rfl rfl 31 _ q67 hi2 hz2 ho2 ?_)
          have Su69 : Below X.heap.size X (v66.setRow g63 SG) := below_setRow Sv66 Lg63 _
          have ru69 := setRow_heap _ _ _ SG _ _ q67
          have Ku69 : ∀ k, k ≠ g63 → (v66.setRow g63 SG).heap[k]? = v66.heap[k]? := fun k hk => setRow_other _ _ _ _ hk
          have Tu69 : Hid ((v66.setRow g63 SG).heap.size = v66.heap.size) := hide (setRow_size _ _ _)
          obtain ⟨u69, hu69⟩ : ∃ Y, v66.setRow g63 SG = Y := ⟨_, rfl⟩
          rw [hu69] at Su69 ru69 Ku69 Tu69
          rw [hu69]
          clear hu69
          refine ⟨Su69, ?_⟩
          have q70 := (Ku69 _ (by (have := unhide Mg50; have := unhide Wy49; have := unhide Mg63; have := unhide Wy62; omega))).trans q68
          refine wpAnyH_one 15 _ (by kernel_rfl) rfl ?_
          go_wp2_with (refine wpList_store_row rfl 26 (.tmp 14) (.tmp 26) rfl g50 cs rfl rfl 26 _ q70 hsi hsq hso ?_)
          have Su71 : Below X.heap.size X (u69.setRow g50 cs) := below_setRow Su69 Lg50 _
          have ru71 := setRow_heap _ _ _ cs _ _ q70
          have Ku71 : ∀ k, k ≠ g50 → (u69.setRow g50 cs).heap[k]? = u69.heap[k]? := fun k hk => setRow_other _ _ _ _ hk
          have Tu71 : Hid ((u69.setRow g50 cs).heap.size = u69.heap.size) := hide (setRow_size _ _ _)
          obtain ⟨u71, hu71⟩ : ∃ Y, u69.setRow g50 cs = Y := ⟨_, rfl⟩
          rw [hu71] at Su71 ru71 Ku71 Tu71
          rw [hu71]
          clear hu71
          refine ⟨Su71, ?_⟩
          have q72 := (Ku71 _ (by (have := unhide Mg50; have := unhide Wy49; have := unhide Mg63; have := unhide Wy62; have := unhide Tu69; omega))).trans ru69
          refine wpAnyH_one 16 _ (by kernel_rfl) rfl ?_
          go_wp2
          refine ⟨Su71, ?_⟩
          have keep : ∀ k, k < v66.heap.size → k ≠ g63 → k ≠ g50 → u71.heap[k]? = v66.heap[k]? := fun k h1 h2 h3 => ((Ku71 k (by (first | (have := h1; have := h2; have := h3; have := unhide Mg50; have := unhide Wy49; have := unhide Mg63; have := unhide Wy62; have := unhide Tu69; have := unhide Tu71; omega)))).trans (Ku69 k (by (first | (have := h1; have := h2; have := h3; have := unhide Mg50; have := unhide Wy49; have := unhide Mg63; have := unhide Wy62; have := unhide Tu69; have := unhide Tu71; omega)))))
          refine wpAnyH_done (by kernel_rfl) ?_ _
          go_wp2
          go_meet
          case rel => exact ⟨g63, g50, gc, cap, cs, rfl, rfl, rfl, by rw [unhide HSG]; exact q72, ru71, DL_at hDc (keep gc (by (have := unhide Mg50; have := unhide Wy49; have := unhide Mg63; have := unhide Wy62; have := unhide Tu69; have := unhide Tu71; omega)) (by (have := unhide Mg50; have := unhide Wy49; have := unhide Mg63; have := unhide Wy62; have := unhide Tu69; have := unhide Tu71; omega)) (by (have := unhide Mg50; have := unhide Wy49; have := unhide Mg63; have := unhide Wy62; have := unhide Tu69; have := unhide Tu71; omega))), ⟨g, gp, by (have := unhide Mg50; have := unhide Wy49; have := unhide Mg63; have := unhide Wy62; have := unhide Tu69; have := unhide Tu71; omega), by (have := unhide Mg50; have := unhide Wy49; have := unhide Mg63; have := unhide Wy62; have := unhide Tu69; have := unhide Tu71; omega), unhide Hcs, (keep g (by (have := unhide Mg50; have := unhide Wy49; have := unhide Mg63; have := unhide Wy62; have := unhide Tu69; have := unhide Tu71; omega)) (by (have := unhide Mg50; have := unhide Wy49; have := unhide Mg63; have := unhide Wy62; have := unhide Tu69; have := unhide Tu71; omega)) (by (have := unhide Mg50; have := unhide Wy49; have := unhide Mg63; have := unhide Wy62; have := unhide Tu69; have := unhide Tu71; omega))).trans t1, (keep (g + 1) (by (have := unhide Mg50; have := unhide Wy49; have := unhide Mg63; have := unhide Wy62; have := unhide Tu69; have := unhide Tu71; omega)) (by (have := unhide Mg50; have := unhide Wy49; have := unhide Mg63; have := unhide Wy62; have := unhide Tu69; have := unhide Tu71; omega)) (by (have := unhide Mg50; have := unhide Wy49; have := unhide Mg63; have := unhide Wy62; have := unhide Tu69; have := unhide Tu71; omega))).trans t2, (keep gp (by (have := unhide Mg50; have := unhide Wy49; have := unhide Mg63; have := unhide Wy62; have := unhide Tu69; have := unhide Tu71; omega)) (by (have := unhide Mg50; have := unhide Wy49; have := unhide Mg63; have := unhide Wy62; have := unhide Tu69; have := unhide Tu71; omega)) (by (have := unhide Mg50; have := unhide Wy49; have := unhide Mg63; have := unhide Wy62; have := unhide Tu69; have := unhide Tu71; omega))).trans t3⟩, Su71, by (have := unhide Mg50; have := unhide Wy49; have := unhide Mg63; have := unhide Wy62; have := unhide Tu69; have := unhide Tu71; omega), by (have := unhide Mg50; have := unhide Wy49; have := unhide Mg63; have := unhide Wy62; have := unhide Tu69; have := unhide Tu71; omega), by (have := unhide Mg50; have := unhide Wy49; have := unhide Mg63; have := unhide Wy62; have := unhide Tu69; have := unhide Tu71; omega)⟩
    · go_wp2
      have Sy73 : Below X.heap.size X (d0.alloc (.cells sg0 31)) := Sd0.alloc Sd0.size _
      have q75 := al1 d0 (.cells sg0 31)
      have Zy73 : d0.heap.size + 1 = (d0.alloc (.cells sg0 31)).heap.size := by simp
      have Ky73 : ∀ k, k < d0.heap.size → (d0.alloc (.cells sg0 31)).heap[k]? = d0.heap[k]? := fun k hk => Below.heap_alloc _ _ _ hk
      refine ⟨Sy73, ?_⟩
      change wpAnyH _ _ _ _ _ _ _ _ (d0.alloc (.cells sg0 31))
      obtain ⟨y73, hy73⟩ : ∃ Y, d0.alloc (.cells sg0 31) = Y := ⟨_, rfl⟩
      rw [hy73] at Sy73 q75 Zy73 Ky73
      rw [hy73]
      obtain ⟨g74, hg74⟩ : ∃ g, d0.heap.size = g := ⟨_, rfl⟩
      have Lg74 : X.heap.size ≤ g74 := by rw [← hg74]; exact Sd0.size
      have Mg74 : Hid (d0.heap.size = g74) := hide hg74
      rw [hg74] at q75
      rw [hg74]
      have Wy73 := hide Zy73
      have Ny73 := Sy73.size
      clear hy73 hg74 Zy73
      refine wpAnyH_two 6 13 _ _ (by kernel_rfl) rfl rfl ?_ ?_
      · go_wp2_with fail
        refine (unhide cl _ ((unhide HT).below Sy73 (Nat.le_refl _))).mono ?_
        rintro e v76 ⟨rfl, bv76⟩
        have Sv76 : Below X.heap.size X v76 := Sy73.trans (bv76.mono Sy73.size)
        have Zv76 := bv76.size
        have Nv76 := Sv76.size
        have q77 := Below.at bv76 (Array.getElem?_eq_some_iff.1 q75).1 q75
        go_wp2
        refine ⟨Sv76, ?_⟩
        refine wpAnyH_two 7 13 _ _ (by kernel_rfl) rfl rfl ?_ ?_
        · go_wp2_with fail
          refine (unhide ks _ ((unhide HD).below Sv76 (Nat.le_refl _)) ((unhide HT).below Sv76 (Nat.le_refl _))).mono ?_
          rintro e v78 ⟨⟨gc, cap, cs, rfl, hgc, hDc, hSc⟩, bv78⟩
          have Sv78 : Below X.heap.size X v78 := Sv76.trans (bv78.mono Sv76.size)
          have Zv78 := bv78.size
          have Nv78 := Sv78.size
          have q79 := Below.at bv78 (Array.getElem?_eq_some_iff.1 q77).1 q77
          have zc := st_lt hds hDc
          obtain ⟨g, gp, hg1, hg2, hcs, t1, t2, t3⟩ := hSc.ex
          have y1 := (Array.getElem?_eq_some_iff.1 t2).1
          have Hcs := hide hcs
          clear hcs
          have y2 := (Array.getElem?_eq_some_iff.1 t3).1
          go_wp2
          refine ⟨Sv78, ?_⟩
          refine wpAnyH_take (i := 8) rfl (by kernel_rfl) (by kernel_rfl) (by kernel_rfl) (fun _ _ _ h => h) (.inl ⟨rfl, fun _ _ => rfl⟩) Sv78 ?_
          refine wpAnyH_take (i := 9) rfl (by kernel_rfl) (by kernel_rfl) (by kernel_rfl) (fun _ _ _ h => h) (.inl ⟨rfl, fun _ _ => rfl⟩) Sv78 ?_
          refine wpAnyH_take (i := 10) rfl (by kernel_rfl) (by kernel_rfl) (by kernel_rfl) (fun _ _ _ h => h) (.inl ⟨rfl, fun _ _ => rfl⟩) Sv78 ?_
          refine wpAnyH_take (i := 11) rfl (by kernel_rfl) (by kernel_rfl) (by kernel_rfl) (fun _ _ _ h => h) (.inl ⟨rfl, fun _ _ => rfl⟩) Sv78 ?_
          refine wpAnyH_one 13 _ (by kernel_rfl) rfl ?_
          go_wp2
          have Sy80 : Below X.heap.size X (v78.alloc (.cells sigZ 26)) := Sv78.alloc Sv78.size _
          have q82 := al1 v78 (.cells sigZ 26)
          have Zy80 : v78.heap.size + 1 = (v78.alloc (.cells sigZ 26)).heap.size := by simp
          have Ky80 : ∀ k, k < v78.heap.size → (v78.alloc (.cells sigZ 26)).heap[k]? = v78.heap[k]? := fun k hk => Below.heap_alloc _ _ _ hk
          refine ⟨Sy80, ?_⟩
          change wpAnyH _ _ _ _ _ _ _ _ (v78.alloc (.cells sigZ 26))
          obtain ⟨y80, hy80⟩ : ∃ Y, v78.alloc (.cells sigZ 26) = Y := ⟨_, rfl⟩
          rw [hy80] at Sy80 q82 Zy80 Ky80
          rw [hy80]
          obtain ⟨g81, hg81⟩ : ∃ g, v78.heap.size = g := ⟨_, rfl⟩
          have Lg81 : X.heap.size ≤ g81 := by rw [← hg81]; exact Sv78.size
          have Mg81 : Hid (v78.heap.size = g81) := hide hg81
          rw [hg81] at q82
          rw [hg81]
          have Wy80 := hide Zy80
          have Ny80 := Sy80.size
          clear hy80 hg81 Zy80
          have q83 := (Ky80 _ (Array.getElem?_eq_some_iff.1 q79).1).trans q79
          refine wpAnyH_one 14 _ (by kernel_rfl) rfl ?_
          have hz2 := sg0_size seed (unhide Hs) ((x : Int) + 1) (.slice (some ⟨gc, 0, none⟩) 16 cap)
          have hi2 := sgc_info seed (unhide Hs) ((x : Int) + 1) (.slice (some ⟨gc, 0, none⟩) 16 cap)
          have ho2 := sgc_one seed ((x : Int) + 1) (some ⟨gc, 0, none⟩) 16 cap
          obtain ⟨SG, hSG⟩ : ∃ SG, sgc seed ((x : Int) + 1) (.slice (some ⟨gc, 0, none⟩) 16 cap) = SG := ⟨_, rfl⟩
          rw [hSG] at hz2 hi2 ho2
          rw [hSG]
          have HSG := hide hSG
          have hsz := hSc.size
          have hsi := sig_info cs hsz.1
          have hso := hsz.2
          have hsq : sigZ.size = cs.size := by rw [hsz.1]; rfl
          clear hSG hsz
          go_wp2_with (refine wpList_store_row rfl 31 (.tmp 13) (.tmp 25) rfl g74 SG rfl rfl 31 _ q83 hi2 hz2 ho2 ?_)
          have Su84 : Below X.heap.size X (y80.setRow g74 SG) := below_setRow Sy80 Lg74 _
          have ru84 := setRow_heap _ _ _ SG _ _ q83
          have Ku84 : ∀ k, k ≠ g74 → (y80.setRow g74 SG).heap[k]? = y80.heap[k]? := fun k hk => setRow_other _ _ _ _ hk
          have Tu84 : Hid ((y80.setRow g74 SG).heap.size = y80.heap.size) := hide (setRow_size _ _ _)
          obtain ⟨u84, hu84⟩ : ∃ Y, y80.setRow g74 SG = Y := ⟨_, rfl⟩
          rw [hu84] at Su84 ru84 Ku84 Tu84
          rw [hu84]
          clear hu84
          refine ⟨Su84, ?_⟩
          have q85 := (Ku84 _ (by (have := unhide Mg74; have := unhide Wy73; have := unhide Mg81; have := unhide Wy80; omega))).trans q82
          refine wpAnyH_one 15 _ (by kernel_rfl) rfl ?_
          go_wp2_with (refine wpList_store_row rfl 26 (.tmp 14) (.tmp 26) rfl g81 cs rfl rfl 26 _ q85 hsi hsq hso ?_)
          have Su86 : Below X.heap.size X (u84.setRow g81 cs) := below_setRow Su84 Lg81 _
          have ru86 := setRow_heap _ _ _ cs _ _ q85
          have Ku86 : ∀ k, k ≠ g81 → (u84.setRow g81 cs).heap[k]? = u84.heap[k]? := fun k hk => setRow_other _ _ _ _ hk
          have Tu86 : Hid ((u84.setRow g81 cs).heap.size = u84.heap.size) := hide (setRow_size _ _ _)
          obtain ⟨u86, hu86⟩ : ∃ Y, u84.setRow g81 cs = Y := ⟨_, rfl⟩
          rw [hu86] at Su86 ru86 Ku86 Tu86
          rw [hu86]
          clear hu86
          refine ⟨Su86, ?_⟩
          have q87 := (Ku86 _ (by (have := unhide Mg74; have := unhide Wy73; have := unhide Mg81; have := unhide Wy80; have := unhide Tu84; omega))).trans ru84
          refine wpAnyH_one 16 _ (by kernel_rfl) rfl ?_
          go_wp2
          refine ⟨Su86, ?_⟩
          have keep : ∀ k, k < v78.heap.size → k ≠ g74 → k ≠ g81 → u86.heap[k]? = v78.heap[k]? := fun k h1 h2 h3 => (((Ku86 k (by (first | (have := h1; have := h2; have := h3; have := unhide Mg74; have := unhide Wy73; have := unhide Mg81; have := unhide Wy80; have := unhide Tu84; have := unhide Tu86; omega)))).trans (Ku84 k (by (first | (have := h1; have := h2; have := h3; have := unhide Mg74; have := unhide Wy73; have := unhide Mg81; have := unhide Wy80; have := unhide Tu84; have := unhide Tu86; omega))))).trans (Ky80 k (by (first | (have := h1; have := h2; have := h3; have := unhide Mg74; have := unhide Wy73; have := unhide Mg81; have := unhide Wy80; have := unhide Tu84; have := unhide Tu86; omega)))))
          refine wpAnyH_done (by kernel_rfl) ?_ _
          go_wp2
          go_meet
          case rel => exact ⟨g74, g81, gc, cap, cs, rfl, rfl, rfl, by rw [unhide HSG]; exact q87, ru86, DL_at hDc (keep gc (by (have := unhide Mg74; have := unhide Wy73; have := unhide Mg81; have := unhide Wy80; have := unhide Tu84; have := unhide Tu86; omega)) (by (have := unhide Mg74; have := unhide Wy73; have := unhide Mg81; have := unhide Wy80; have := unhide Tu84; have := unhide Tu86; omega)) (by (have := unhide Mg74; have := unhide Wy73; have := unhide Mg81; have := unhide Wy80; have := unhide Tu84; have := unhide Tu86; omega))), ⟨g, gp, by (have := unhide Mg74; have := unhide Wy73; have := unhide Mg81; have := unhide Wy80; have := unhide Tu84; have := unhide Tu86; omega), by (have := unhide Mg74; have := unhide Wy73; have := unhide Mg81; have := unhide Wy80; have := unhide Tu84; have := unhide Tu86; omega), unhide Hcs, (keep g (by (have := unhide Mg74; have := unhide Wy73; have := unhide Mg81; have := unhide Wy80; have := unhide Tu84; have := unhide Tu86; omega)) (by (have := unhide Mg74; have := unhide Wy73; have := unhide Mg81; have := unhide Wy80; have := unhide Tu84; have := unhide Tu86; omega)) (by (have := unhide Mg74; have := unhide Wy73; have := unhide Mg81; have := unhide Wy80; have := unhide Tu84; have := unhide Tu86; omega))).trans t1, (keep (g + 1) (by (have := unhide Mg74; have := unhide Wy73; have := unhide Mg81; have := unhide Wy80; have := unhide Tu84; have := unhide Tu86; omega)) (by (have := unhide Mg74; have := unhide Wy73; have := unhide Mg81; have := unhide Wy80; have := unhide Tu84; have := unhide Tu86; omega)) (by (have := unhide Mg74; have := unhide Wy73; have := unhide Mg81; have := unhide Wy80; have := unhide Tu84; have := unhide Tu86; omega))).trans t2, (keep gp (by (have := unhide Mg74; have := unhide Wy73; have := unhide Mg81; have := unhide Wy80; have := unhide Tu84; have := unhide Tu86; omega)) (by (have := unhide Mg74; have := unhide Wy73; have := unhide Mg81; have := unhide Wy80; have := unhide Tu84; have := unhide Tu86; omega)) (by (have := unhide Mg74; have := unhide Wy73; have := unhide Mg81; have := unhide Wy80; have := unhide Tu84; have := unhide Tu86; omega))).trans t3⟩, Su86, by (have := unhide Mg74; have := unhide Wy73; have := unhide Mg81; have := unhide Wy80; have := unhide Tu84; have := unhide Tu86; omega), by (have := unhide Mg74; have := unhide Wy73; have := unhide Mg81; have := unhide Wy80; have := unhide Tu84; have := unhide Tu86; omega), by (have := unhide Mg74; have := unhide Wy73; have := unhide Mg81; have := unhide Wy80; have := unhide Tu84; have := unhide Tu86; omega)⟩
        · go_wp2
          have Sy88 : Below X.heap.size X (v76.alloc (.cells sigZ 26)) := Sv76.alloc Sv76.size _
          have q90 := al1 v76 (.cells sigZ 26)
          have Zy88 : v76.heap.size + 1 = (v76.alloc (.cells sigZ 26)).heap.size := by simp
          have Ky88 : ∀ k, k < v76.heap.size → (v76.alloc (.cells sigZ 26)).heap[k]? = v76.heap[k]? := fun k hk => Below.heap_alloc _ _ _ hk
          refine ⟨Sy88, ?_⟩
          change wpAnyH _ _ _ _ _ _ _ _ (v76.alloc (.cells sigZ 26))
          obtain ⟨y88, hy88⟩ : ∃ Y, v76.alloc (.cells sigZ 26) = Y := ⟨_, rfl⟩
          rw [hy88] at Sy88 q90 Zy88 Ky88
          rw [hy88]
          obtain ⟨g89, hg89⟩ : ∃ g, v76.heap.size = g := ⟨_, rfl⟩
          have Lg89 : X.heap.size ≤ g89 := by rw [← hg89]; exact Sv76.size
          have Mg89 : Hid (v76.heap.size = g89) := hide hg89
          rw [hg89] at q90
          rw [hg89]
          have Wy88 := hide Zy88
          have Ny88 := Sy88.size
          clear hy88 hg89 Zy88
          have q91 := (Ky88 _ (Array.getElem?_eq_some_iff.1 q77).1).trans q77
          refine wpAnyH_one 7 _ (by kernel_rfl) rfl ?_
          go_wp2_with fail
          refine (unhide ks _ ((unhide HD).below Sy88 (Nat.le_refl _)) ((unhide HT).below Sy88 (Nat.le_refl _))).mono ?_
          rintro e v92 ⟨⟨gc, cap, cs, rfl, hgc, hDc, hSc⟩, bv92⟩
          have Sv92 : Below X.heap.size X v92 := Sy88.trans (bv92.mono Sy88.size)
          have Zv92 := bv92.size
          have Nv92 := Sv92.size
          have q93 := Below.at bv92 (Array.getElem?_eq_some_iff.1 q91).1 q91
          have q94 := Below.at bv92 (Array.getElem?_eq_some_iff.1 q90).1 q90
          have zc := st_lt hds hDc
          obtain ⟨g, gp, hg1, hg2, hcs, t1, t2, t3⟩ := hSc.ex
          have y1 := (Array.getElem?_eq_some_iff.1 t2).1
          have Hcs := hide hcs
          clear hcs
          have y2 := (Array.getElem?_eq_some_iff.1 t3).1
          go_wp2
          refine ⟨Sv92, ?_⟩
          refine wpAnyH_take (i := 8) rfl (by kernel_rfl) (by kernel_rfl) (by kernel_rfl) (fun _ _ _ h => h) (.inl ⟨rfl, fun _ _ => rfl⟩) Sv92 ?_
          refine wpAnyH_take (i := 9) rfl (by kernel_rfl) (by kernel_rfl) (by kernel_rfl) (fun _ _ _ h => h) (.inl ⟨rfl, fun _ _ => rfl⟩) Sv92 ?_
          refine wpAnyH_take (i := 10) rfl (by kernel_rfl) (by kernel_rfl) (by kernel_rfl) (fun _ _ _ h => h) (.inl ⟨rfl, fun _ _ => rfl⟩) Sv92 ?_
          refine wpAnyH_take (i := 11) rfl (by kernel_rfl) (by kernel_rfl) (by kernel_rfl) (fun _ _ _ h => h) (.inl ⟨rfl, fun _ _ => rfl⟩) Sv92 ?_
          refine wpAnyH_one 14 _ (by kernel_rfl) rfl ?_
          have hz2 := sg0_size seed (unhide Hs) ((x : Int) + 1) (.slice (some ⟨gc, 0, none⟩) 16 cap)
          have hi2 := sgc_info seed (unhide Hs) ((x : Int) + 1) (.slice (some ⟨gc, 0, none⟩) 16 cap)
          have ho2 := sgc_one seed ((x : Int) + 1) (some ⟨gc, 0, none⟩) 16 cap
          obtain ⟨SG, hSG⟩ : ∃ SG, sgc seed ((x : Int) + 1) (.slice (some ⟨gc, 0, none⟩) 16 cap) = SG := ⟨_, rfl⟩
          rw [hSG] at hz2 hi2 ho2
          rw [hSG]
          have HSG := hide hSG
          have hsz := hSc.size
          have hsi := sig_info cs hsz.1
          have hso := hsz.2
          have hsq : sigZ.size = cs.size := by rw [hsz.1]; rfl
          clear hSG hsz
          go_wp2_with (refine wpList_store_row rfl 31 (.tmp 13) (.tmp 25) rfl g74 SG rfl rfl 31 _ q93 hi2 hz2 ho2 ?_)
          have Su95 : Below X.heap.size X (v92.setRow g74 SG) := below_setRow Sv92 Lg74 _
          have ru95 := setRow_heap _ _ _ SG _ _ q93
          have Ku95 : ∀ k, k ≠ g74 → (v92.setRow g74 SG).heap[k]? = v92.heap[k]? := fun k hk => setRow_other _ _ _ _ hk
          have Tu95 : Hid ((v92.setRow g74 SG).heap.size = v92.heap.size) := hide (setRow_size _ _ _)
          obtain ⟨u95, hu95⟩ : ∃ Y, v92.setRow g74 SG = Y := ⟨_, rfl⟩
          rw [hu95] at Su95 ru95 Ku95 Tu95
          rw [hu95]
          clear hu95
          refine ⟨Su95, ?_⟩
          have q96 := (Ku95 _ (by (have := unhide Mg74; have := unhide Wy73; have := unhide Mg89; have := unhide Wy88; omega))).trans q94
          refine wpAnyH_one 15 _ (by kernel_rfl) rfl ?_
          go_wp2_with (refine wpList_store_row rfl 26 (.tmp 14) (.tmp 26) rfl g89 cs rfl rfl 26 _ q96 hsi hsq hso ?_)
          have Su97 : Below X.heap.size X (u95.setRow g89 cs) := below_setRow Su95 Lg89 _
          have ru97 := setRow_heap _ _ _ cs _ _ q96
          have Ku97 : ∀ k, k ≠ g89 → (u95.setRow g89 cs).heap[k]? = u95.heap[k]? := fun k hk => setRow_other _ _ _ _ hk
          have Tu97 : Hid ((u95.setRow g89 cs).heap.size = u95.heap.size) := hide (setRow_size _ _ _)
          obtain ⟨u97, hu97⟩ : ∃ Y, u95.setRow g89 cs = Y := ⟨_, rfl⟩
          rw [hu97] at Su97 ru97 Ku97 Tu97
          rw [hu97]
          clear hu97
          refine ⟨Su97, ?_⟩
          have q98 := (Ku97 _ (by (have := unhide Mg74; have := unhide Wy73; have := unhide Mg89; have := unhide Wy88; have := unhide Tu95; omega))).trans ru95
          refine wpAnyH_one 16 _ (by kernel_rfl) rfl ?_
          go_wp2
          refine ⟨Su97, ?_⟩
          have keep : ∀ k, k < v92.heap.size → k ≠ g74 → k ≠ g89 → u97.heap[k]? = v92.heap[k]? := fun k h1 h2 h3 => ((Ku97 k (by (first | (have := h1; have := h2; have := h3; have := unhide Mg74; have := unhide Wy73; have := unhide Mg89; have := unhide Wy88; have := unhide Tu95; have := unhide Tu97; omega)))).trans (Ku95 k (by (first | (have := h1; have := h2; have := h3; have := unhide Mg74; have := unhide Wy73; have := unhide Mg89; have := unhide Wy88; have := unhide Tu95; have := unhide Tu97; omega)))))
          refine wpAnyH_done (by kernel_rfl) ?_ _
          go_wp2
          go_meet
          case rel => exact ⟨g74, g89, gc, cap, cs, rfl, rfl, rfl, by rw [unhide HSG]; exact q98, ru97, DL_at hDc (keep gc (by (have := unhide Mg74; have := unhide Wy73; have := unhide Mg89; have := unhide Wy88; have := unhide Tu95; have := unhide Tu97; omega)) (by (have := unhide Mg74; have := unhide Wy73; have := unhide Mg89; have := unhide Wy88; have := unhide Tu95; have := unhide Tu97; omega)) (by (have := unhide Mg74; have := unhide Wy73; have := unhide Mg89; have := unhide Wy88; have := unhide Tu95; have := unhide Tu97; omega))), ⟨g, gp, by (have := unhide Mg74; have := unhide Wy73; have := unhide Mg89; have := unhide Wy88; have := unhide Tu95; have := unhide Tu97; omega), by (have := unhide Mg74; have := unhide Wy73; have := unhide Mg89; have := unhide Wy88; have := unhide Tu95; have := unhide Tu97; omega), unhide Hcs, (keep g (by (have := unhide Mg74; have := unhide Wy73; have := unhide Mg89; have := unhide Wy88; have := unhide Tu95; have := unhide Tu97; omega)) (by (have := unhide Mg74; have := unhide Wy73; have := unhide Mg89; have := unhide Wy88; have := unhide Tu95; have := unhide Tu97; omega)) (by (have := unhide Mg74; have := unhide Wy73; have := unhide Mg89; have := unhide Wy88; have := unhide Tu95; have := unhide Tu97; omega))).trans t1, (keep (g + 1) (by (have := unhide Mg74; have := unhide Wy73; have := unhide Mg89; have := unhide Wy88; have := unhide Tu95; have := unhide Tu97; omega)) (by (have := unhide Mg74; have := unhide Wy73; have := unhide Mg89; have := unhide Wy88; have := unhide Tu95; have := unhide Tu97; omega)) (by (have := unhide Mg74; have := unhide Wy73; have := unhide Mg89; have := unhide Wy88; have := unhide Tu95; have := unhide Tu97; omega))).trans t2, (keep gp (by (have := unhide Mg74; have := unhide Wy73; have := unhide Mg89; have := unhide Wy88; have := unhide Tu95; have := unhide Tu97; omega)) (by (have := unhide Mg74; have := unhide Wy73; have := unhide Mg89; have := unhide Wy88; have := unhide Tu95; have := unhide Tu97; omega)) (by (have := unhide Mg74; have := unhide Wy73; have := unhide Mg89; have := unhide Wy88; have := unhide Tu95; have := unhide Tu97; omega))).trans t3⟩, Su97, by (have := unhide Mg74; have := unhide Wy73; have := unhide Mg89; have := unhide Wy88; have := unhide Tu95; have := unhide Tu97; omega), by (have := unhide Mg74; have := unhide Wy73; have := unhide Mg89; have := unhide Wy88; have := unhide Tu95; have := unhide Tu97; omega), by (have := unhide Mg74; have := unhide Wy73; have := unhide Mg89; have := unhide Wy88; have := unhide Tu95; have := unhide Tu97; omega)⟩
      · go_wp2
        have Sy99 : Below X.heap.size X (y73.alloc (.cells sigZ 26)) := Sy73.alloc Sy73.size _
        have q101 := al1 y73 (.cells sigZ 26)
        have Zy99 : y73.heap.size + 1 = (y73.alloc (.cells sigZ 26)).heap.size := by simp
        have Ky99 : ∀ k, k < y73.heap.size → (y73.alloc (.cells sigZ 26)).heap[k]? = y73.heap[k]? := fun k hk => Below.heap_alloc _ _ _ hk
        refine ⟨Sy99, ?_⟩
        change wpAnyH _ _ _ _ _ _ _ _ (y73.alloc (.cells sigZ 26))
        obtain ⟨y99, hy99⟩ : ∃ Y, y73.alloc (.cells sigZ 26) = Y := ⟨_, rfl⟩
        rw [hy99] at Sy99 q101 Zy99 Ky99
        rw [hy99]
        obtain ⟨g100, hg100⟩ : ∃ g, y73.heap.size = g := ⟨_, rfl⟩
        have Lg100 : X.heap.size ≤ g100 := by rw [← hg100]; exact Sy73.size
        have Mg100 : Hid (y73.heap.size = g100) := hide hg100
        rw [hg100] at q101
        rw [hg100]
        have Wy99 := hide Zy99
        have Ny99 := Sy99.size
        clear hy99 hg100 Zy99
        have q102 := (Ky99 _ (Array.getElem?_eq_some_iff.1 q75).1).trans q75
        refine wpAnyH_one 6 _ (by kernel_rfl) rfl ?_
        go_wp2_with fail
        refine (unhide cl _ ((unhide HT).below Sy99 (Nat.le_refl _))).mono ?_
        rintro e v103 ⟨rfl, bv103⟩
        have Sv103 : Below X.heap.size X v103 := Sy99.trans (bv103.mono Sy99.size)
        have Zv103 := bv103.size
        have Nv103 := Sv103.size
        have q104 := Below.at bv103 (Array.getElem?_eq_some_iff.1 q102).1 q102
        have q105 := Below.at bv103 (Array.getElem?_eq_some_iff.1 q101).1 q101
        go_wp2
        refine ⟨Sv103, ?_⟩
        refine wpAnyH_one 7 _ (by kernel_rfl) rfl ?_
        go_wp2_with fail
        refine (unhide ks _ ((unhide HD).below Sv103 (Nat.le_refl _)) ((unhide HT).below Sv103 (Nat.le_refl _))).mono ?_
        rintro e v106 ⟨⟨gc, cap, cs, rfl, hgc, hDc, hSc⟩, bv106⟩
        have Sv106 : Below X.heap.size X v106 := Sv103.trans (bv106.mono Sv103.size)
        have Zv106 := bv106.size
        have Nv106 := Sv106.size
        have q107 := Below.at bv106 (Array.getElem?_eq_some_iff.1 q104).1 q104
        have q108 := Below.at bv106 (Array.getElem?_eq_some_iff.1 q105).1 q105
        have zc := st_lt hds hDc
        obtain ⟨g, gp, hg1, hg2, hcs, t1, t2, t3⟩ := hSc.ex
        have y1 := (Array.getElem?_eq_some_iff.1 t2).1
        have Hcs := hide hcs
        clear hcs
        have y2 := (Array.getElem?_eq_some_iff.1 t3).1
        go_wp2
        refine ⟨Sv106, ?_⟩
        refine wpAnyH_take (i := 8) rfl (by kernel_rfl) (by kernel_rfl) (by kernel_rfl) (fun _ _ _ h => h) (.inl ⟨rfl, fun _ _ => rfl⟩) Sv106 ?_
        refine wpAnyH_take (i := 9) rfl (by kernel_rfl) (by kernel_rfl) (by kernel_rfl) (fun _ _ _ h => h) (.inl ⟨rfl, fun _ _ => rfl⟩) Sv106 ?_
        refine wpAnyH_take (i := 10) rfl (by kernel_rfl) (by kernel_rfl) (by kernel_rfl) (fun _ _ _ h => h) (.inl ⟨rfl, fun _ _ => rfl⟩) Sv106 ?_
        refine wpAnyH_take (i := 11) rfl (by kernel_rfl) (by kernel_rfl) (by kernel_rfl) (fun _ _ _ h => h) (.inl ⟨rfl, fun _ _ => rfl⟩) Sv106 ?_
        refine wpAnyH_one 14 _ (by kernel_rfl) rfl ?_
        have hz2 := sg0_size seed (unhide Hs) ((x : Int) + 1) (.slice (some ⟨gc, 0, none⟩) 16 cap)
        have hi2 := sgc_info seed (unhide Hs) ((x : Int) + 1) (.slice (some ⟨gc, 0, none⟩) 16 cap)
        have ho2 := sgc_one seed ((x : Int) + 1) (some ⟨gc, 0, none⟩) 16 cap
        obtain ⟨SG, hSG⟩ : ∃ SG, sgc seed ((x : Int) + 1) (.slice (some ⟨gc, 0, none⟩) 16 cap) = SG := ⟨_, rfl⟩
        rw [hSG] at hz2 hi2 ho2
        rw [hSG]
        have HSG := hide hSG
        have hsz := hSc.size
        have hsi := sig_info cs hsz.1
        have hso := hsz.2
        have hsq : sigZ.size = cs.size := by rw [hsz.1]; rfl
        clear hSG hsz
        go_wp2_with (refine wpList_store_row rfl 31 (.tmp 13) (.tmp 25) rfl g74 SG rfl rfl 31 _ q107 hi2 hz2 ho2 ?_)
        have Su109 : Below X.heap.size X (v106.setRow g74 SG) := below_setRow Sv106 Lg74 _
        have ru109 := setRow_heap _ _ _ SG _ _ q107
        have Ku109 : ∀ k, k ≠ g74 → (v106.setRow g74 SG).heap[k]? = v106.heap[k]? := fun k hk => setRow_other _ _ _ _ hk
        have Tu109 : Hid ((v106.setRow g74 SG).heap.size = v106.heap.size) := hide (setRow_size _ _ _)
        obtain ⟨u109, hu109⟩ : ∃ Y, v106.setRow g74 SG = Y := ⟨_, rfl⟩
        rw [hu109] at Su109 ru109 Ku109 Tu109
        rw [hu109]
        clear hu109
        refine ⟨Su109, ?_⟩
        have q110 := (Ku109 _ (by (have := unhide Mg74; have := unhide Wy73; have := unhide Mg100; have := unhide Wy99; omega))).trans q108
        refine wpAnyH_one 15 _ (by kernel_rfl) rfl ?_
        go_wp2_with (refine wpList_store_row rfl 26 (.tmp 14) (.tmp 26) rfl g100 cs rfl rfl 26 _ q110 hsi hsq hso ?_)
        have Su111 : Below X.heap.size X (u109.setRow g100 cs) := below_setRow Su109 Lg100 _
        have ru111 := setRow_heap _ _ _ cs _ _ q110
        have Ku111 : ∀ k, k ≠ g100 → (u109.setRow g100 cs).heap[k]? = u109.heap[k]? := fun k hk => setRow_other _ _ _ _ hk
        have Tu111 : Hid ((u109.setRow g100 cs).heap.size = u109.heap.size) := hide (setRow_size _ _ _)
        obtain ⟨u111, hu111⟩ : ∃ Y, u109.setRow g100 cs = Y := ⟨_, rfl⟩
        rw [hu111] at Su111 ru111 Ku111 Tu111
        rw [hu111]
        clear hu111
        refine ⟨Su111, ?_⟩
        have q112 := (Ku111 _ (by (have := unhide Mg74; have := unhide Wy73; have := unhide Mg100; have := unhide Wy99; have := unhide Tu109; omega))).trans ru109
        refine wpAnyH_one 16 _ (by kernel_rfl) rfl ?_
        go_wp2
        refine ⟨Su111, ?_⟩
        have keep : ∀ k, k < v106.heap.size → k ≠ g74 → k ≠ g100 → u111.heap[k]? = v106.heap[k]? := fun k h1 h2 h3 => ((Ku111 k (by (first | (have := h1; have := h2; have := h3; have := unhide Mg74; have := unhide Wy73; have := unhide Mg100; have := unhide Wy99; have := unhide Tu109; have := unhide Tu111; omega)))).trans (Ku109 k (by (first | (have := h1; have := h2; have := h3; have := unhide Mg74; have := unhide Wy73; have := unhide Mg100; have := unhide Wy99; have := unhide Tu109; have := unhide Tu111; omega)))))
        refine wpAnyH_done (by kernel_rfl) ?_ _
        go_wp2
        go_meet
        case rel => exact ⟨g74, g100, gc, cap, cs, rfl, rfl, rfl, by rw [unhide HSG]; exact q112, ru111, DL_at hDc (keep gc (by (have := unhide Mg74; have := unhide Wy73; have := unhide Mg100; have := unhide Wy99; have := unhide Tu109; have := unhide Tu111; omega)) (by (have := unhide Mg74; have := unhide Wy73; have := unhide Mg100; have := unhide Wy99; have := unhide Tu109; have := unhide Tu111; omega)) (by (have := unhide Mg74; have := unhide Wy73; have := unhide Mg100; have := unhide Wy99; have := unhide Tu109; have := unhide Tu111; omega))), ⟨g, gp, by (have := unhide Mg74; have := unhide Wy73; have := unhide Mg100; have := unhide Wy99; have := unhide Tu109; have := unhide Tu111; omega), by (have := unhide Mg74; have := unhide Wy73; have := unhide Mg100; have := unhide Wy99; have := unhide Tu109; have := unhide Tu111; omega), unhide Hcs, (keep g (by (have := unhide Mg74; have := unhide Wy73; have := unhide Mg100; have := unhide Wy99; have := unhide Tu109; have := unhide Tu111; omega)) (by (have := unhide Mg74; have := unhide Wy73; have := unhide Mg100; have := unhide Wy99; have := unhide Tu109; have := unhide Tu111; omega)) (by (have := unhide Mg74; have := unhide Wy73; have := unhide Mg100; have := unhide Wy99; have := unhide Tu109; have := unhide Tu111; omega))).trans t1, (keep (g + 1) (by (have := unhide Mg74; have := unhide Wy73; have := unhide Mg100; have := unhide Wy99; have := unhide Tu109; have := unhide Tu111; omega)) (by (have := unhide Mg74; have := unhide Wy73; have := unhide Mg100; have := unhide Wy99; have := unhide Tu109; have := unhide Tu111; omega)) (by (have := unhide Mg74; have := unhide Wy73; have := unhide Mg100; have := unhide Wy99; have := unhide Tu109; have := unhide Tu111; omega))).trans t2, (keep gp (by (have := unhide Mg74; have := unhide Wy73; have := unhide Mg100; have := unhide Wy99; have := unhide Tu109; have := unhide Tu111; omega)) (by (have := unhide Mg74; have := unhide Wy73; have := unhide Mg100; have := unhide Wy99; have := unhide Tu109; have := unhide Tu111; omega)) (by (have := unhide Mg74; have := unhide Wy73; have := unhide Mg100; have := unhide Wy99; have := unhide Tu109; have := unhide Tu111; omega))).trans t3⟩, Su111, by (have := unhide Mg74; have := unhide Wy73; have := unhide Mg100; have := unhide Wy99; have := unhide Tu109; have := unhide Tu111; omega), by (have := unhide Mg74; have := unhide Wy73; have := unhide Mg100; have := unhide Wy99; have := unhide Tu109; have := unhide Tu111; omega), by (have := unhide Mg74; have := unhide Wy73; have := unhide Mg100; have := unhide Wy99; have := unhide Tu109; have := unhide Tu111; omega)⟩
    · go_wp2
      have Sy113 : Below X.heap.size X (d0.alloc (.cells sigZ 26)) := Sd0.alloc Sd0.size _
      have q115 := al1 d0 (.cells sigZ 26)
      have Zy113 : d0.heap.size + 1 = (d0.alloc (.cells sigZ 26)).heap.size := by simp
      have Ky113 : ∀ k, k < d0.heap.size → (d0.alloc (.cells sigZ 26)).heap[k]? = d0.heap[k]? := fun k hk => Below.heap_alloc _ _ _ hk
      refine ⟨Sy113, ?_⟩
      change wpAnyH _ _ _ _ _ _ _ _ (d0.alloc (.cells sigZ 26))
      obtain ⟨y113, hy113⟩ : ∃ Y, d0.alloc (.cells sigZ 26) = Y := ⟨_, rfl⟩
      rw [hy113] at Sy113 q115 Zy113 Ky113
      rw [hy113]
      obtain ⟨g114, hg114⟩ : ∃ g, d0.heap.size = g := ⟨_, rfl⟩
      have Lg114 : X.heap.size ≤ g114 := by rw [← hg114]; exact Sd0.size
      have Mg114 : Hid (d0.heap.size = g114) := hide hg114
      rw [hg114] at q115
      rw [hg114]
      have Wy113 := hide Zy113
      have Ny113 := Sy113.size
      clear hy113 hg114 Zy113
      refine wpAnyH_two 6 12 _ _ (by kernel_rfl) rfl rfl ?_ ?_
      · go_wp2_with fail
        refine (unhide cl _ ((unhide HT).below Sy113 (Nat.le_refl _))).mono ?_
        rintro e v116 ⟨rfl, bv116⟩
        have Sv116 : Below X.heap.size X v116 := Sy113.trans (bv116.mono Sy113.size)
        have Zv116 := bv116.size
        have Nv116 := Sv116.size
        have q117 := Below.at bv116 (Array.getElem?_eq_some_iff.1 q115).1 q115
        go_wp2
        refine ⟨Sv116, ?_⟩
        refine wpAnyH_two 7 12 _ _ (by kernel_rfl) rfl rfl ?_ ?_
        · go_wp2_with fail
          refine (unhide ks _ ((unhide HD).below Sv116 (Nat.le_refl _)) ((unhide HT).below Sv116 (Nat.le_refl _))).mono ?_
          rintro e v118 ⟨⟨gc, cap, cs, rfl, hgc, hDc, hSc⟩, bv118⟩
          have Sv118 : Below X.heap.size X v118 := Sv116.trans (bv118.mono Sv116.size)
          have Zv118 := bv118.size
          have Nv118 := Sv118.size
          have q119 := Below.at bv118 (Array.getElem?_eq_some_iff.1 q117).1 q117
          have zc := st_lt hds hDc
          obtain ⟨g, gp, hg1, hg2, hcs, t1, t2, t3⟩ := hSc.ex
          have y1 := (Array.getElem?_eq_some_iff.1 t2).1
          have Hcs := hide hcs
          clear hcs
          have y2 := (Array.getElem?_eq_some_iff.1 t3).1
          go_wp2
          refine ⟨Sv118, ?_⟩
          refine wpAnyH_take (i := 8) rfl (by kernel_rfl) (by kernel_rfl) (by kernel_rfl) (fun _ _ _ h => h) (.inl ⟨rfl, fun _ _ => rfl⟩) Sv118 ?_
          refine wpAnyH_take (i := 9) rfl (by kernel_rfl) (by kernel_rfl) (by kernel_rfl) (fun _ _ _ h => h) (.inl ⟨rfl, fun _ _ => rfl⟩) Sv118 ?_
          refine wpAnyH_take (i := 10) rfl (by kernel_rfl) (by kernel_rfl) (by kernel_rfl) (fun _ _ _ h => h) (.inl ⟨rfl, fun _ _ => rfl⟩) Sv118 ?_
          refine wpAnyH_take (i := 11) rfl (by kernel_rfl) (by kernel_rfl) (by kernel_rfl) (fun _ _ _ h => h) (.inl ⟨rfl, fun _ _ => rfl⟩) Sv118 ?_
          refine wpAnyH_one 12 _ (by kernel_rfl) rfl ?_
          go_wp2
          have Sy120 : Below X.heap.size X (v118.alloc (.cells sg0 31)) := Sv118.alloc Sv118.size _
          have q122 := al1 v118 (.cells sg0 31)
          have Zy120 : v118.heap.size + 1 = (v118.alloc (.cells sg0 31)).heap.size := by simp
          have Ky120 : ∀ k, k < v118.heap.size → (v118.alloc (.cells sg0 31)).heap[k]? = v118.heap[k]? := fun k hk => Below.heap_alloc _ _ _ hk
          refine ⟨Sy120, ?_⟩
          change wpAnyH _ _ _ _ _ _ _ _ (v118.alloc (.cells sg0 31))
          obtain ⟨y120, hy120⟩ : ∃ Y, v118.alloc (.cells sg0 31) = Y := ⟨_, rfl⟩
          rw [hy120] at Sy120 q122 Zy120 Ky120
          rw [hy120]
          obtain ⟨g121, hg121⟩ : ∃ g, v118.heap.size = g := ⟨_, rfl⟩
          have Lg121 : X.heap.size ≤ g121 := by rw [← hg121]; exact Sv118.size
          have Mg121 : Hid (v118.heap.size = g121) := hide hg121
          rw [hg121] at q122
          rw [hg121]
          have Wy120 := hide Zy120
          have Ny120 := Sy120.size
          clear hy120 hg121 Zy120
          have q123 := (Ky120 _ (Array.getElem?_eq_some_iff.1 q119).1).trans q119
          refine wpAnyH_one 14 _ (by kernel_rfl) rfl ?_
          have hz2 := sg0_size seed (unhide Hs) ((x : Int) + 1) (.slice (some ⟨gc, 0, none⟩) 16 cap)
          have hi2 := sgc_info seed (unhide Hs) ((x : Int) + 1) (.slice (some ⟨gc, 0, none⟩) 16 cap)
          have ho2 := sgc_one seed ((x : Int) + 1) (some ⟨gc, 0, none⟩) 16 cap
          obtain ⟨SG, hSG⟩ : ∃ SG, sgc seed ((x : Int) + 1) (.slice (some ⟨gc, 0, none⟩) 16 cap) = SG := ⟨_, rfl⟩
          rw [hSG] at hz2 hi2 ho2
          rw [hSG]
          have HSG := hide hSG
          have hsz := hSc.size
          have hsi := sig_info cs hsz.1
          have hso := hsz.2
          have hsq : sigZ.size = cs.size := by rw [hsz.1]; rfl
          clear hSG hsz
          go_wp2_with (refine wpList_store_row rfl 31 (.tmp 13) (.tmp 25) rfl g121 SG rfl rfl 31 _ q122 hi2 hz2 ho2 ?_)
          have Su124 : Below X.heap.size X (y120.setRow g121 SG) := below_setRow Sy120 Lg121 _
          have ru124 := setRow_heap _ _ _ SG _ _ q122
          have Ku124 : ∀ k, k ≠ g121 → (y120.setRow g121 SG).heap[k]? = y120.heap[k]? := fun k hk => setRow_other _ _ _ _ hk
          have Tu124 : Hid ((y120.setRow g121 SG).heap.size = y120.heap.size) := hide (setRow_size _ _ _)
          obtain ⟨u124, hu124⟩ : ∃ Y, y120.setRow g121 SG = Y := ⟨_, rfl⟩
          rw [hu124] at Su124 ru124 Ku124 Tu124
          rw [hu124]
          clear hu124
          refine ⟨Su124, ?_⟩
          have q125 := (Ku124 _ (by (have := unhide Mg114; have := unhide Wy113; have := unhide Mg121; have := unhide Wy120; omega))).trans q123
          refine wpAnyH_one 15 _ (by kernel_rfl) rfl ?_
          go_wp2_with (refine wpList_store_row rfl 26 (.tmp 14) (.tmp 26) rfl g114 cs rfl rfl 26 _ q125 hsi hsq hso ?_)
          have Su126 : Below X.heap.size X (u124.setRow g114 cs) := below_setRow Su124 Lg114 _
          have ru126 := setRow_heap _ _ _ cs _ _ q125
          have Ku126 : ∀ k, k ≠ g114 → (u124.setRow g114 cs).heap[k]? = u124.heap[k]? := fun k hk => setRow_other _ _ _ _ hk
          have Tu126 : Hid ((u124.setRow g114 cs).heap.size = u124.heap.size) := hide (setRow_size _ _ _)
          obtain ⟨u126, hu126⟩ : ∃ Y, u124.setRow g114 cs = Y := ⟨_, rfl⟩
          rw [hu126] at Su126 ru126 Ku126 Tu126
          rw [hu126]
          clear hu126
          refine ⟨Su126, ?_⟩
          have q127 := (Ku126 _ (by (have := unhide Mg114; have := unhide Wy113; have := unhide Mg121; have := unhide Wy120; have := unhide Tu124; omega))).trans ru124
          refine wpAnyH_one 16 _ (by kernel_rfl) rfl ?_
          go_wp2
          refine ⟨Su126, ?_⟩
          have keep : ∀ k, k < v118.heap.size → k ≠ g121 → k ≠ g114 → u126.heap[k]? = v118.heap[k]? := fun k h1 h2 h3 => (((Ku126 k (by (first | (have := h1; have := h2; have := h3; have := unhide Mg114; have := unhide Wy113; have := unhide Mg121; have := unhide Wy120; have := unhide Tu124; have := unhide Tu126; omega)))).trans (Ku124 k (by (first | (have := h1; have := h2; have := h3; have := unhide Mg114; have := unhide Wy113; have := unhide Mg121; have := unhide Wy120; have := unhide Tu124; have := unhide Tu126; omega))))).trans (Ky120 k (by (first | (have := h1; have := h2; have := h3; have := unhide Mg114; have := unhide Wy113; have := unhide Mg121; have := unhide Wy120; have := unhide Tu124; have := unhide Tu126; omega)))))
          refine wpAnyH_done (by kernel_rfl) ?_ _
          go_wp2
          go_meet
          case rel => exact ⟨g121, g114, gc, cap, cs, rfl, rfl, rfl, by rw [unhide HSG]; exact q127, ru126, DL_at hDc (keep gc (by (have := unhide Mg114; have := unhide Wy113; have := unhide Mg121; have := unhide Wy120; have := unhide Tu124; have := unhide Tu126; omega)) (by (have := unhide Mg114; have := unhide Wy113; have := unhide Mg121; have := unhide Wy120; have := unhide Tu124; have := unhide Tu126; omega)) (by (have := unhide Mg114; have := unhide Wy113; have := unhide Mg121; have := unhide Wy120; have := unhide Tu124; have := unhide Tu126; omega))), ⟨g, gp, by (have := unhide Mg114; have := unhide Wy113; have := unhide Mg121; have := unhide Wy120; have := unhide Tu124; have := unhide Tu126; omega), by (have := unhide Mg114; have := unhide Wy113; have := unhide Mg121; have := unhide Wy120; have := unhide Tu124; have := unhide Tu126; omega), unhide Hcs, (keep g (by (have := unhide Mg114; have := unhide Wy113; have := unhide Mg121; have := unhide Wy120; have := unhide Tu124; have := unhide Tu126; omega)) (by (have := unhide Mg114; have := unhide Wy113; have := unhide Mg121; have := unhide Wy120; have := unhide Tu124; have := unhide Tu126; omega)) (by (have := unhide Mg114; have := unhide Wy113; have := unhide Mg121; have := unhide Wy120; have := unhide Tu124; have := unhide Tu126; omega))).trans t1, (keep (g + 1) (by (have := unhide Mg114; have := unhide Wy113; have := unhide Mg121; have := unhide Wy120; have := unhide Tu124; have := unhide Tu126; omega)) (by (have := unhide Mg114; have := unhide Wy113; have := unhide Mg121; have := unhide Wy120; have := unhide Tu124; have := unhide Tu126; omega)) (by (have := unhide Mg114; have := unhide Wy113; have := unhide Mg121; have := unhide Wy120; have := unhide Tu124; have := unhide Tu126; omega))).trans t2, (keep gp (by (have := unhide Mg114; have := unhide Wy113; have := unhide Mg121; have := unhide Wy120; have := unhide Tu124; have := unhide Tu126; omega)) (by (have := unhide Mg114; have := unhide Wy113; have := unhide Mg121; have := unhide Wy120; have := unhide Tu124; have := unhide Tu126; omega)) (by (have := unhide Mg114; have := unhide Wy113; have := unhide Mg121; have := unhide Wy120; have := unhide Tu124; have := unhide Tu126; omega))).trans t3⟩, Su126, by (have := unhide Mg114; have := unhide Wy113; have := unhide Mg121; have := unhide Wy120; have := unhide Tu124; have := unhide Tu126; omega), by (have := unhide Mg114; have := unhide Wy113; have := unhide Mg121; have := unhide Wy120; have := unhide Tu124; have := unhide Tu126; omega), by (have := unhide Mg114; have := unhide Wy113; have := unhide Mg121; have := unhide Wy120; have := unhide Tu124; have := unhide Tu126; omega)⟩
        · go_wp2
          have Sy128 : Below X.heap.size X (v116.alloc (.cells sg0 31)) := Sv116.alloc Sv116.size _
          have q130 := al1 v116 (.cells sg0 31)
          have Zy128 : v116.heap.size + 1 = (v116.alloc (.cells sg0 31)).heap.size := by simp
          have Ky128 : ∀ k, k < v116.heap.size → (v116.alloc (.cells sg0 31)).heap[k]? = v116.heap[k]? := fun k hk => Below.heap_alloc _ _ _ hk
          refine ⟨Sy128, ?_⟩
          change wpAnyH _ _ _ _ _ _ _ _ (v116.alloc (.cells sg0 31))
          obtain ⟨y128, hy128⟩ : ∃ Y, v116.alloc (.cells sg0 31) = Y := ⟨_, rfl⟩
          rw [hy128] at Sy128 q130 Zy128 Ky128
          rw [hy128]
          obtain ⟨g129, hg129⟩ : ∃ g, v116.heap.size = g := ⟨_, rfl⟩
          have Lg129 : X.heap.size ≤ g129 := by rw [← hg129]; exact Sv116.size
          have Mg129 : Hid (v116.heap.size = g129) := hide hg129
          rw [hg129] at q130
          rw [hg129]
          have Wy128 := hide Zy128
          have Ny128 := Sy128.size
          clear hy128 hg129 Zy128
          have q131 := (Ky128 _ (Array.getElem?_eq_some_iff.1 q117).1).trans q117
          refine wpAnyH_one 7 _ (by kernel_rfl) rfl ?_
          go_wp2_with fail
          refine (unhide ks _ ((unhide HD).below Sy128 (Nat.le_refl _)) ((unhide HT).below Sy128 (Nat.le_refl _))).mono ?_
          rintro e v132 ⟨⟨gc, cap, cs, rfl, hgc, hDc, hSc⟩, bv132⟩
          have Sv132 : Below X.heap.size X v132 := Sy128.trans (bv132.mono Sy128.size)
          have Zv132 := bv132.size
          have Nv132 := Sv132.size
          have q133 := Below.at bv132 (Array.getElem?_eq_some_iff.1 q130).1 q130
          have q134 := Below.at bv132 (Array.getElem?_eq_some_iff.1 q131).1 q131
          have zc := st_lt hds hDc
          obtain ⟨g, gp, hg1, hg2, hcs, t1, t2, t3⟩ := hSc.ex
          have y1 := (Array.getElem?_eq_some_iff.1 t2).1
          have Hcs := hide hcs
          clear hcs
          have y2 := (Array.getElem?_eq_some_iff.1 t3).1
          go_wp2
          refine ⟨Sv132, ?_⟩
          refine wpAnyH_take (i := 8) rfl (by kernel_rfl) (by kernel_rfl) (by kernel_rfl) (fun _ _ _ h => h) (.inl ⟨rfl, fun _ _ => rfl⟩) Sv132 ?_
          refine wpAnyH_take (i := 9) rfl (by kernel_rfl) (by kernel_rfl) (by kernel_rfl) (fun _ _ _ h => h) (.inl ⟨rfl, fun _ _ => rfl⟩) Sv132 ?_
          refine wpAnyH_take (i := 10) rfl (by kernel_rfl) (by kernel_rfl) (by kernel_rfl) (fun _ _ _ h => h) (.inl ⟨rfl, fun _ _ => rfl⟩) Sv132 ?_
          refine wpAnyH_take (i := 11) rfl (by kernel_rfl) (by kernel_rfl) (by kernel_rfl) (fun _ _ _ h => h) (.inl ⟨rfl, fun _ _ => rfl⟩) Sv132 ?_
          refine wpAnyH_one 14 _ (by kernel_rfl) rfl ?_
          have hz2 := sg0_size seed (unhide Hs) ((x : Int) + 1) (.slice (some ⟨gc, 0, none⟩) 16 cap)
          have hi2 := sgc_info seed (unhide Hs) ((x : Int) + 1) (.slice (some ⟨gc, 0, none⟩) 16 cap)
          have ho2 := sgc_one seed ((x : Int) + 1) (some ⟨gc, 0, none⟩) 16 cap
          obtain ⟨SG, hSG⟩ : ∃ SG, sgc seed ((x : Int) + 1) (.slice (some ⟨gc, 0, none⟩) 16 cap) = SG := ⟨_, rfl⟩
          rw [hSG] at hz2 hi2 ho2
          rw [hSG]
          have HSG := hide hSG
          have hsz := hSc.size
          have hsi := sig_info cs hsz.1
          have hso := hsz.2
          have hsq : sigZ.size = cs.size := by rw [hsz.1]; rfl
          clear hSG hsz
          go_wp2_with (refine wpList_store_row rfl 31 (.tmp 13) (.tmp 25) rfl g129 SG rfl rfl 31 _ q133 hi2 hz2 ho2 ?_)
          have Su135 : Below X.heap.size X (v132.setRow g129 SG) := below_setRow Sv132 Lg129 _
          have ru135 := setRow_heap _ _ _ SG _ _ q133
          have Ku135 : ∀ k, k ≠ g129 → (v132.setRow g129 SG).heap[k]? = v132.heap[k]? := fun k hk => setRow_other _ _ _ _ hk
          have Tu135 : Hid ((v132.setRow g129 SG).heap.size = v132.heap.size) := hide (setRow_size _ _ _)
          obtain ⟨u135, hu135⟩ : ∃ Y, v132.setRow g129 SG = Y := ⟨_, rfl⟩
          rw [hu135] at Su135 ru135 Ku135 Tu135
          rw [hu135]
          clear hu135
          refine ⟨Su135, ?_⟩
          have q136 := (Ku135 _ (by (have := unhide Mg114; have := unhide Wy113; have := unhide Mg129; have := unhide Wy128; omega))).trans q134
          refine wpAnyH_one 15 _ (by kernel_rfl) rfl ?_
          go_wp2_with (refine wpList_store_row rfl 26 (.tmp 14) (.tmp 26) rfl g114 cs rfl rfl 26 _ q136 hsi hsq hso ?_)
          have Su137 : Below X.heap.size X (u135.setRow g114 cs) := below_setRow Su135 Lg114 _
          have ru137 := setRow_heap _ _ _ cs _ _ q136
          have Ku137 : ∀ k, k ≠ g114 → (u135.setRow g114 cs).heap[k]? = u135.heap[k]? := fun k hk => setRow_other _ _ _ _ hk
          have Tu137 : Hid ((u135.setRow g114 cs).heap.size = u135.heap.size) := hide (setRow_size _ _ _)
          obtain ⟨u137, hu137⟩ : ∃ Y, u135.setRow g114 cs = Y := ⟨_, rfl⟩
          rw [hu137] at Su137 ru137 Ku137 Tu137
          rw [hu137]
          clear hu137
          refine ⟨Su137, ?_⟩
          have q138 := (Ku137 _ (by (have := unhide Mg114; have := unhide Wy113; have := unhide Mg129; have := unhide Wy128; have := unhide Tu135; omega))).trans ru135
          refine wpAnyH_one 16 _ (by kernel_rfl) rfl ?_
          go_wp2
          refine ⟨Su137, ?_⟩
          have keep : ∀ k, k < v132.heap.size → k ≠ g129 → k ≠ g114 → u137.heap[k]? = v132.heap[k]? := fun k h1 h2 h3 => ((Ku137 k (by (first | (have := h1; have := h2; have := h3; have := unhide Mg114; have := unhide Wy113; have := unhide Mg129; have := unhide Wy128; have := unhide Tu135; have := unhide Tu137; omega)))).trans (Ku135 k (by (first | (have := h1; have := h2; have := h3; have := unhide Mg114; have := unhide Wy113; have := unhide Mg129; have := unhide Wy128; have := unhide Tu135; have := unhide Tu137; omega)))))
          refine wpAnyH_done (by kernel_rfl) ?_ _
          go_wp2
          go_meet
          case rel => exact ⟨g129, g114, gc, cap, cs, rfl, rfl, rfl, by rw [unhide HSG]; exact q138, ru137, DL_at hDc (keep gc (by (have := unhide Mg114; have := unhide Wy113; have := unhide Mg129; have := unhide Wy128; have := unhide Tu135; have := unhide Tu137; omega)) (by (have := unhide Mg114; have := unhide Wy113; have := unhide Mg129; have := unhide Wy128; have := unhide Tu135; have := unhide Tu137; omega)) (by (have := unhide Mg114; have := unhide Wy113; have := unhide Mg129; have := unhide Wy128; have := unhide Tu135; have := unhide Tu137; omega))), ⟨g, gp, by (have := unhide Mg114; have := unhide Wy113; have := unhide Mg129; have := unhide Wy128; have := unhide Tu135; have := unhide Tu137; omega), by (have := unhide Mg114; have := unhide Wy113; have := unhide Mg129; have := unhide Wy128; have := unhide Tu135; have := unhide Tu137; omega), unhide Hcs, (keep g (by (have := unhide Mg114; have := unhide Wy113; have := unhide Mg129; have := unhide Wy128; have := unhide Tu135; have := unhide Tu137; omega)) (by (have := unhide Mg114; have := unhide Wy113; have := unhide Mg129; have := unhide Wy128; have := unhide Tu135; have := unhide Tu137; omega)) (by (have := unhide Mg114; have := unhide Wy113; have := unhide Mg129; have := unhide Wy128; have := unhide Tu135; have := unhide Tu137; omega))).trans t1, (keep (g + 1) (by (have := unhide Mg114; have := unhide Wy113; have := unhide Mg129; have := unhide Wy128; have := unhide Tu135; have := unhide Tu137; omega)) (by (have := unhide Mg114; have := unhide Wy113; have := unhide Mg129; have := unhide Wy128; have := unhide Tu135; have := unhide Tu137; omega)) (by (have := unhide Mg114; have := unhide Wy113; have := unhide Mg129; have := unhide Wy128; have := unhide Tu135; have := unhide Tu137; omega))).trans t2, (keep gp (by (have := unhide Mg114; have := unhide Wy113; have := unhide Mg129; have := unhide Wy128; have := unhide Tu135; have := unhide Tu137; omega)) (by (have := unhide Mg114; have := unhide Wy113; have := unhide Mg129; have := unhide Wy128; have := unhide Tu135; have := unhide Tu137; omega)) (by (have := unhide Mg114; have := unhide Wy113; have := unhide Mg129; have := unhide Wy128; have := unhide Tu135; have := unhide Tu137; omega))).trans t3⟩, Su137, by (have := unhide Mg114; have := unhide Wy113; have := unhide Mg129; have := unhide Wy128; have := unhide Tu135; have := unhide Tu137; omega), by (have := unhide Mg114; have := unhide Wy113; have := unhide Mg129; have := unhide Wy128; have := unhide Tu135; have := unhide Tu137; omega), by (have := unhide Mg114; have := unhide Wy113; have := unhide Mg129; have := unhide Wy128; have := unhide Tu135; have := unhide Tu137; omega)⟩
      · go_wp2
        have Sy139 : Below X.heap.size X (y113.alloc (.cells sg0 31)) := Sy113.alloc Sy113.size _
        have q141 := al1 y113 (.cells sg0 31)
        have Zy139 : y113.heap.size + 1 = (y113.alloc (.cells sg0 31)).heap.size := by simp
        have Ky139 : ∀ k, k < y113.heap.size → (y113.alloc (.cells sg0 31)).heap[k]? = y113.heap[k]? := fun k hk => Below.heap_alloc _ _ _ hk
        refine ⟨Sy139, ?_⟩
        change wpAnyH _ _ _ _ _ _ _ _ (y113.alloc (.cells sg0 31))
        obtain ⟨y139, hy139⟩ : ∃ Y, y113.alloc (.cells sg0 31) = Y := ⟨_, rfl⟩
        rw [hy139] at Sy139 q141 Zy139 Ky139
        rw [hy139]
        obtain ⟨g140, hg140⟩ : ∃ g, y113.heap.size = g := ⟨_, rfl⟩
        have Lg140 : X.heap.size ≤ g140 := by rw [← hg140]; exact Sy113.size
        have Mg140 : Hid (y113.heap.size = g140) := hide hg140
        rw [hg140] at q141
        rw [hg140]
        have Wy139 := hide Zy139
        have Ny139 := Sy139.size
        clear hy139 hg140 Zy139
        have q142 := (Ky139 _ (Array.getElem?_eq_some_iff.1 q115).1).trans q115
        refine wpAnyH_one 6 _ (by kernel_rfl) rfl ?_
        go_wp2_with fail
        refine (unhide cl _ ((unhide HT).below Sy139 (Nat.le_refl _))).mono ?_
        rintro e v143 ⟨rfl, bv143⟩
        have Sv143 : Below X.heap.size X v143 := Sy139.trans (bv143.mono Sy139.size)
        have Zv143 := bv143.size
        have Nv143 := Sv143.size
        have q144 := Below.at bv143 (Array.getElem?_eq_some_iff.1 q141).1 q141
        have q145 := Below.at bv143 (Array.getElem?_eq_some_iff.1 q142).1 q142
        go_wp2
        refine ⟨Sv143, ?_⟩
        refine wpAnyH_one 7 _ (by kernel_rfl) rfl ?_
        go_wp2_with fail
        refine (unhide ks _ ((unhide HD).below Sv143 (Nat.le_refl _)) ((unhide HT).below Sv143 (Nat.le_refl _))).mono ?_
        rintro e v146 ⟨⟨gc, cap, cs, rfl, hgc, hDc, hSc⟩, bv146⟩
        have Sv146 : Below X.heap.size X v146 := Sv143.trans (bv146.mono Sv143.size)
        have Zv146 := bv146.size
        have Nv146 := Sv146.size
        have q147 := Below.at bv146 (Array.getElem?_eq_some_iff.1 q144).1 q144
        have q148 := Below.at bv146 (Array.getElem?_eq_some_iff.1 q145).1 q145
        have zc := st_lt hds hDc
        obtain ⟨g, gp, hg1, hg2, hcs, t1, t2, t3⟩ := hSc.ex
        have y1 := (Array.getElem?_eq_some_iff.1 t2).1
        have Hcs := hide hcs
        clear hcs
        have y2 := (Array.getElem?_eq_some_iff.1 t3).1
        go_wp2
        refine ⟨Sv146, ?_⟩
        refine wpAnyH_take (i := 8) rfl (by kernel_rfl) (by kernel_rfl) (by kernel_rfl) (fun _ _ _ h => h) (.inl ⟨rfl, fun _ _ => rfl⟩) Sv146 ?_
        refine wpAnyH_take (i := 9) rfl (by kernel_rfl) (by kernel_rfl) (by kernel_rfl) (fun _ _ _ h => h) (.inl ⟨rfl, fun _ _ => rfl⟩) Sv146 ?_
        refine wpAnyH_take (i := 10) rfl (by kernel_rfl) (by kernel_rfl) (by kernel_rfl) (fun _ _ _ h => h) (.inl ⟨rfl, fun _ _ => rfl⟩) Sv146 ?_
        refine wpAnyH_take (i := 11) rfl (by kernel_rfl) (by kernel_rfl) (by kernel_rfl) (fun _ _ _ h => h) (.inl ⟨rfl, fun _ _ => rfl⟩) Sv146 ?_
        refine wpAnyH_one 14 _ (by kernel_rfl) rfl ?_
        have hz2 := sg0_size seed (unhide Hs) ((x : Int) + 1) (.slice (some ⟨gc, 0, none⟩) 16 cap)
        have hi2 := sgc_info seed (unhide Hs) ((x : Int) + 1) (.slice (some ⟨gc, 0, none⟩) 16 cap)
        have ho2 := sgc_one seed ((x : Int) + 1) (some ⟨gc, 0, none⟩) 16 cap
        obtain ⟨SG, hSG⟩ : ∃ SG, sgc seed ((x : Int) + 1) (.slice (some ⟨gc, 0, none⟩) 16 cap) = SG := ⟨_, rfl⟩
        rw [hSG] at hz2 hi2 ho2
        rw [hSG]
        have HSG := hide hSG
        have hsz := hSc.size
        have hsi := sig_info cs hsz.1
        have hso := hsz.2
        have hsq : sigZ.size = cs.size := by rw [hsz.1]; rfl
        clear hSG hsz
        go_wp2_with (refine wpList_store_row rfl 31 (.tmp 13) (.tmp 25) rfl g140 SG rfl rfl 31 _ q147 hi2 hz2 ho2 ?_)
        have Su149 : Below X.heap.size X (v146.setRow g140 SG) := below_setRow Sv146 Lg140 _
        have ru149 := setRow_heap _ _ _ SG _ _ q147
        have Ku149 : ∀ k, k ≠ g140 → (v146.setRow g140 SG).heap[k]? = v146.heap[k]? := fun k hk => setRow_other _ _ _ _ hk
        have Tu149 : Hid ((v146.setRow g140 SG).heap.size = v146.heap.size) := hide (setRow_size _ _ _)
        obtain ⟨u149, hu149⟩ : ∃ Y, v146.setRow g140 SG = Y := ⟨_, rfl⟩
        rw [hu149] at Su149 ru149 Ku149 Tu149
        rw [hu149]
        clear hu149
        refine ⟨Su149, ?_⟩
        have q150 := (Ku149 _ (by (have := unhide Mg114; have := unhide Wy113; have := unhide Mg140; have := unhide Wy139; omega))).trans q148
        refine wpAnyH_one 15 _ (by kernel_rfl) rfl ?_
        go_wp2_with (refine wpList_store_row rfl 26 (.tmp 14) (.tmp 26) rfl g114 cs rfl rfl 26 _ q150 hsi hsq hso ?_)
        have Su151 : Below X.heap.size X (u149.setRow g114 cs) := below_setRow Su149 Lg114 _
        have ru151 := setRow_heap _ _ _ cs _ _ q150
        have Ku151 : ∀ k, k ≠ g114 → (u149.setRow g114 cs).heap[k]? = u149.heap[k]? := fun k hk => setRow_other _ _ _ _ hk
        have Tu151 : Hid ((u149.setRow g114 cs).heap.size = u149.heap.size) := hide (setRow_size _ _ _)
        obtain ⟨u151, hu151⟩ : ∃ Y, u149.setRow g114 cs = Y := ⟨_, rfl⟩
        rw [hu151] at Su151 ru151 Ku151 Tu151
        rw [hu151]
        clear hu151
        refine ⟨Su151, ?_⟩
        have q152 := (Ku151 _ (by (have := unhide Mg114; have := unhide Wy113; have := unhide Mg140; have := unhide Wy139; have := unhide Tu149; omega))).trans ru149
        refine wpAnyH_one 16 _ (by kernel_rfl) rfl ?_
        go_wp2
        refine ⟨Su151, ?_⟩
        have keep : ∀ k, k < v146.heap.size → k ≠ g140 → k ≠ g114 → u151.heap[k]? = v146.heap[k]? := fun k h1 h2 h3 => ((Ku151 k (by (first | (have := h1; have := h2; have := h3; have := unhide Mg114; have := unhide Wy113; have := unhide Mg140; have := unhide Wy139; have := unhide Tu149; have := unhide Tu151; omega)))).trans (Ku149 k (by (first | (have := h1; have := h2; have := h3; have := unhide Mg114; have := unhide Wy113; have := unhide Mg140; have := unhide Wy139; have := unhide Tu149; have := unhide Tu151; omega)))))
        refine wpAnyH_done (by kernel_rfl) ?_ _
        go_wp2
        go_meet
        case rel => exact ⟨g140, g114, gc, cap, cs, rfl, rfl, rfl, by rw [unhide HSG]; exact q152, ru151, DL_at hDc (keep gc (by (have := unhide Mg114; have := unhide Wy113; have := unhide Mg140; have := unhide Wy139; have := unhide Tu149; have := unhide Tu151; omega)) (by (have := unhide Mg114; have := unhide Wy113; have := unhide Mg140; have := unhide Wy139; have := unhide Tu149; have := unhide Tu151; omega)) (by (have := unhide Mg114; have := unhide Wy113; have := unhide Mg140; have := unhide Wy139; have := unhide Tu149; have := unhide Tu151; omega))), ⟨g, gp, by (have := unhide Mg114; have := unhide Wy113; have := unhide Mg140; have := unhide Wy139; have := unhide Tu149; have := unhide Tu151; omega), by (have := unhide Mg114; have := unhide Wy113; have := unhide Mg140; have := unhide Wy139; have := unhide Tu149; have := unhide Tu151; omega), unhide Hcs, (keep g (by (have := unhide Mg114; have := unhide Wy113; have := unhide Mg140; have := unhide Wy139; have := unhide Tu149; have := unhide Tu151; omega)) (by (have := unhide Mg114; have := unhide Wy113; have := unhide Mg140; have := unhide Wy139; have := unhide Tu149; have := unhide Tu151; omega)) (by (have := unhide Mg114; have := unhide Wy113; have := unhide Mg140; have := unhide Wy139; have := unhide Tu149; have := unhide Tu151; omega))).trans t1, (keep (g + 1) (by (have := unhide Mg114; have := unhide Wy113; have := unhide Mg140; have := unhide Wy139; have := unhide Tu149; have := unhide Tu151; omega)) (by (have := unhide Mg114; have := unhide Wy113; have := unhide Mg140; have := unhide Wy139; have := unhide Tu149; have := unhide Tu151; omega)) (by (have := unhide Mg114; have := unhide Wy113; have := unhide Mg140; have := unhide Wy139; have := unhide Tu149; have := unhide Tu151; omega))).trans t2, (keep gp (by (have := unhide Mg114; have := unhide Wy113; have := unhide Mg140; have := unhide Wy139; have := unhide Tu149; have := unhide Tu151; omega)) (by (have := unhide Mg114; have := unhide Wy113; have := unhide Mg140; have := unhide Wy139; have := unhide Tu149; have := unhide Tu151; omega)) (by (have := unhide Mg114; have := unhide Wy113; have := unhide Mg140; have := unhide Wy139; have := unhide Tu149; have := unhide Tu151; omega))).trans t3⟩, Su151, by (have := unhide Mg114; have := unhide Wy113; have := unhide Mg140; have := unhide Wy139; have := unhide Tu149; have := unhide Tu151; omega), by (have := unhide Mg114; have := unhide Wy113; have := unhide Mg140; have := unhide Wy139; have := unhide Tu149; have := unhide Tu151; omega), by (have := unhide Mg114; have := unhide Wy113; have := unhide Mg140; have := unhide Wy139; have := unhide Tu149; have := unhide Tu151; omega)⟩
  case rest =>
    obtain ⟨g12, g13, gc, cap, cs, rfl, rfl, rfl, q12, q13, hDc, hSc, hbX, z12, z13, zgc⟩ := hcut
    have hxs := unhide Xs
    have c1 := Below.at hbX (by omega) (unhide X1)
    have c2 := Below.at hbX (by omega) (unhide X2)
    have c3 := Below.at hbX (by omega) (unhide X3)
    have c4 := Below.at hbX (by omega) (unhide X4)
    have bW : Below w.heap.size w wc := (unhide XB).trans (hbX.mono (unhide XB).size)
    have k12 : Hid (w.heap.size + 1 + 1 + 1 + 1 < g12) := hide (by omega)
    have k13 : Hid (w.heap.size + 1 + 1 + 1 + 1 < g13) := hide (by omega)
    have kgc : Hid (w.heap.size + 1 + 1 + 1 + 1 < gc) := hide (by omega)
    have kX : Hid (w.heap.size + 1 + 1 + 1 + 1 < X.heap.size) := hide (by omega)
    have hsz := hSc.size
    have hsi := sig_info cs hsz.1
    have hbu : Hid (Tryd.prog.built 45 [(0, .int .u32 (home : Int)), (1, .agg (bc a)), (2, .agg (bc bb)), (3, .agg cs)] = some (updc home a bb cs)) := hide (by
      obtain ⟨g, gp, _, _, e, _⟩ := hSc.ex
      rw [e]; exact built_upd home a bb (unhide HA) (unhide HB) _ _ _ _ _ _ _ _ _ _)
    have huz := updc_size home a bb (unhide HA) (unhide HB) cs hsz.1
    have hui : (Tryd.prog.info? 45).map (·.size) = some (updc home a bb cs).size := by rw [huz]; kernel_rfl
    have huq : updZ.size = (updc home a bb cs).size := by rw [huz]; exact updc_size 0 _ _ (by simp) (by simp) _ rfl
    have huo := updc_one home a bb cs hsz.2
    have hz2 := sg0_size seed (unhide Hs) ((x : Int) + 1) (.slice (some ⟨gc, 0, none⟩) 16 cap)
    have hi2 := sgc_info seed (unhide Hs) ((x : Int) + 1) (.slice (some ⟨gc, 0, none⟩) 16 cap)
    have ho2 := sgc_one seed ((x : Int) + 1) (some ⟨gc, 0, none⟩) 16 cap
    obtain ⟨SG, hSG⟩ : ∃ SG, sgc seed ((x : Int) + 1) (.slice (some ⟨gc, 0, none⟩) 16 cap) = SG := ⟨_, rfl⟩
    rw [hSG] at hz2 hi2 ho2 q12
    have HSG := hide hSG
    obtain ⟨UC, hUC⟩ : ∃ U, updc home a bb cs = U := ⟨_, rfl⟩
    rw [hUC] at hui huq huo hbu
    have HUC := hide hUC
    clear hxs hbX z12 z13 zgc hsz huz hSG hUC cl ks
    go_upto_region 4 with fail
    have hS0 : { wc with drawn := wc.drawn + 1 }.heap[g12]? = some (.cells SG 31 (0, 0)) ∧ { wc with drawn := wc.drawn + 1 }.heap[w.heap.size + 1]? = some (.cells (bc a) 23 (0, 0)) ∧ { wc with drawn := wc.drawn + 1 }.heap[w.heap.size + 1 + 1]? = some (.cells (bc bb) 23 (0, 0)) ∧ { wc with drawn := wc.drawn + 1 }.heap[g13]? = some (.cells cs 26 (0, 0)) := ⟨q12, c1, c2, q13⟩
    have g3 : { wc with drawn := wc.drawn + 1 }.heap[w.heap.size + 1 + 1 + 1]? = some (.cells sg0 31 (0, 0)) := c3
    have g4 : { wc with drawn := wc.drawn + 1 }.heap[w.heap.size + 1 + 1 + 1 + 1]? = some (.cells updZ 45 (0, 0)) := c4
    have bW8 : Below w.heap.size w { wc with drawn := wc.drawn + 1 } := bW.trans ⟨rfl, rfl, rfl, Nat.le_refl _, fun _ _ => rfl⟩
    have hD8 := DL_at (w' := { wc with drawn := wc.drawn + 1 }) hDc rfl
    have HS8 := hide (hSc.below (w' := { wc with drawn := wc.drawn + 1 }) ⟨rfl, rfl, rfl, Nat.le_refl _, fun _ _ => rfl⟩)
    refine wp_region_held (S := fun W => W.heap[g12]? = some (.cells SG 31 (0, 0)) ∧ W.heap[w.heap.size + 1]? = some (.cells (bc a) 23 (0, 0)) ∧ W.heap[w.heap.size + 1 + 1]? = some (.cells (bc bb) 23 (0, 0)) ∧ W.heap[g13]? = some (.cells cs 26 (0, 0))) mixed ?_
    obtain ⟨Y, hY⟩ : ∃ Y, { wc with drawn := wc.drawn + 1 } = Y := ⟨_, rfl⟩
    rw [hY] at hS0 g3 g4 bW8 hD8 HS8
    rw [hY]
    clear hY q12 q13 c1 c2 c3 c4 bW hDc hSc
    refine wpAnyH_take (i := 0) rfl (by kernel_rfl) (by kernel_rfl) (by kernel_rfl) (fun _ _ _ h => h) (yields_row rfl 31 (.tmp 13) rfl g12 rfl 31 SG (0, 0) _ (fun W hW => hW.1) Tryd.underlying31 rfl hi2) hS0 ?_
    refine wpAnyH_take (i := 1) rfl (by kernel_rfl) (by kernel_rfl) (by kernel_rfl) (fun _ _ _ h => h) (.inl ⟨rfl, fun _ _ => rfl⟩) hS0 ?_
    refine wpAnyH_take (i := 2) rfl (by kernel_rfl) (by kernel_rfl) (by kernel_rfl) (fun _ _ _ h => h) (yields_row rfl 23 (.tmp 8) rfl (w.heap.size + 1) rfl 23 _ (0, 0) _ (fun W hW => hW.2.1) Tryd.underlying23 rfl hia) hS0 ?_
    refine wpAnyH_take (i := 3) rfl (by kernel_rfl) (by kernel_rfl) (by kernel_rfl) (fun _ _ _ h => h) (yields_row rfl 23 (.tmp 9) rfl (w.heap.size + 1 + 1) rfl 23 _ (0, 0) _ (fun W hW => hW.2.2.1) Tryd.underlying23 rfl hib) hS0 ?_
    refine wpAnyH_take (i := 4) rfl (by kernel_rfl) (by kernel_rfl) (by kernel_rfl) (fun _ _ _ h => h) (yields_row rfl 26 (.tmp 14) rfl g13 rfl 26 cs (0, 0) _ (fun W hW => hW.2.2.2) Tryd.underlying26 rfl hsi) hS0 ?_
    refine wpAnyH_take (i := 5) rfl (by kernel_rfl) (by kernel_rfl) (by kernel_rfl) (fun _ _ _ h => h) (yields_build rfl 45 #[(0, .tmp 34), (1, .tmp 35), (2, .tmp 36), (3, .tmp 37)] rfl UC (unhide hbu)) hS0 ?_
    refine wpAnyH_one 6 _ (by kernel_rfl) rfl ?_
    go_wp2_with (refine wpList_store_row rfl 31 (.tmp 10) (.tmp 33) rfl (w.heap.size + 1 + 1 + 1) SG rfl rfl 31 _ g3 hi2 hz2 ho2 ?_)
    have l1 := unhide k12
    have l2 := unhide k13
    have l3 := unhide kgc
    have l4 := unhide kX
    have oth1 : ∀ k, k ≠ w.heap.size + 1 + 1 + 1 → (Y.setRow (w.heap.size + 1 + 1 + 1) SG).heap[k]? = Y.heap[k]? := fun k h1 => setRow_other _ _ _ _ h1
    refine ⟨⟨(oth1 _ (by omega)).trans hS0.1, (oth1 _ (by omega)).trans hS0.2.1, (oth1 _ (by omega)).trans hS0.2.2.1, (oth1 _ (by omega)).trans hS0.2.2.2⟩, ?_⟩
    refine wpAnyH_one 7 _ (by kernel_rfl) rfl ?_
    have k4 := (oth1 (w.heap.size + 1 + 1 + 1 + 1) (by omega)).trans g4
    go_wp2_with (refine wpList_store_row rfl 45 (.tmp 11) (.tmp 38) rfl (w.heap.size + 1 + 1 + 1 + 1) UC rfl rfl 45 _ k4 hui huq huo ?_)
    have oth : ∀ k, k ≠ w.heap.size + 1 + 1 + 1 → k ≠ w.heap.size + 1 + 1 + 1 + 1 → ((Y.setRow (w.heap.size + 1 + 1 + 1) SG).setRow (w.heap.size + 1 + 1 + 1 + 1) UC).heap[k]? = Y.heap[k]? := fun k h1 h2 => (setRow_other _ _ _ _ h2).trans (oth1 k h1)
    have hSz : ((Y.setRow (w.heap.size + 1 + 1 + 1) SG).setRow (w.heap.size + 1 + 1 + 1 + 1) UC).heap[g12]? = some (.cells SG 31 (0, 0)) ∧ ((Y.setRow (w.heap.size + 1 + 1 + 1) SG).setRow (w.heap.size + 1 + 1 + 1 + 1) UC).heap[w.heap.size + 1]? = some (.cells (bc a) 23 (0, 0)) ∧ ((Y.setRow (w.heap.size + 1 + 1 + 1) SG).setRow (w.heap.size + 1 + 1 + 1 + 1) UC).heap[w.heap.size + 1 + 1]? = some (.cells (bc bb) 23 (0, 0)) ∧ ((Y.setRow (w.heap.size + 1 + 1 + 1) SG).setRow (w.heap.size + 1 + 1 + 1 + 1) UC).heap[g13]? = some (.cells cs 26 (0, 0)) := ⟨(oth _ (by omega) (by omega)).trans hS0.1, (oth _ (by omega) (by omega)).trans hS0.2.1, (oth _ (by omega) (by omega)).trans hS0.2.2.1, (oth _ (by omega) (by omega)).trans hS0.2.2.2⟩
    refine ⟨hSz, ?_⟩
    refine wpAnyH_one 8 _ (by kernel_rfl) rfl ?_
    go_wp2
    refine ⟨hSz, wpAnyH_done (by kernel_rfl) ?_ _⟩
    go_wp2
    refine bodyPost_ret (results_row_row_tmp rfl _ _ (w.heap.size + 1 + 1 + 1) (w.heap.size + 1 + 1 + 1 + 1) _ _ SG UC _ _ _ _ rfl rfl ((setRow_other _ _ _ _ (by omega)).trans (setRow_heap _ _ _ _ _ _ g3)) (setRow_heap _ _ _ _ _ _ k4) Tryd.underlying31 rfl hi2 Tryd.underlying45 rfl hui) rfl ⟨⟨gc, cap, cs, by rw [unhide HSG, unhide HUC]; rfl, by omega, DL_at hD8 (oth gc (by omega) (by omega)), ?_⟩, below_setRow (below_setRow bW8 (by omega) _) (by omega) _⟩
    obtain ⟨g, gp, h1, h2, h3, h4, h5, h6⟩ := (unhide HS8).ex
    exact ⟨g, gp, by omega, by omega, h3, (oth g (by omega) (by omega)).trans h4, (oth (g + 1) (by omega) (by omega)).trans h5, (oth gp (by omega) (by omega)).trans h6⟩
end Go.Proofs.YtdkaphebdkdfhaaDoor
