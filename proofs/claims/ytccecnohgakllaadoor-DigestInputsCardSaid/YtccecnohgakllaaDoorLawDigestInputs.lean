/-
  THE WALK OF THE LAW DigestInputs: whatever the two asks, it returns true, and nothing that was there has turned.
-/
import Derived.Test.YtccecnohgakllaaDoorLogF
import Derived.Test.YtccecnohgakllaaDoorLightL
import Derived.Test.YtccecnohgakllaaDoorHeldSteps
import Derived.Test.YtccecnohgakllaaDoorLoadG
import Derived.Test.YtccecnohgakllaaDoorQuietRow
namespace Go.Proofs.YtccecnohgakllaaDoor
open Go Go.RowKit Go.Maps
set_option linter.unusedSimpArgs false
set_option linter.unusedVariables false

theorem askOk_spec {parts : List (List UInt8)} (h : askOk parts = true) : parts.length ≤ 20 ∧ ∀ p ∈ parts, p.length ≤ 1000 := by
  unfold askOk at h
  rw [Bool.and_eq_true, List.all_eq_true] at h
  exact ⟨of_decide_eq_true h.1, fun p hp => of_decide_eq_true (h.2 p hp)⟩
set_option maxHeartbeats 8000000 in
set_option maxRecDepth 100000 in
theorem digestInputs_of (x y : AskD) (D1 D2 : List UInt8) (h1 : D1.length = 32) (h2 : D2.length = 32) (hD1 : pOf x.dom x.parts = D1) (hD2 : pOf y.dom y.parts = D2) (w : World) (hx : x.Good w) (hy : y.Good w) (tabs : Tabs w) :
    Calls Tryd.prog 5 #[.agg x.cells, .agg y.cells] w fun e w' => e = .returned (.bool true) ∧ Below w.heap.size w w' := by
  have HX := hide hx
  have HY := hide hy
  have HT := hide tabs
  have sx := x.size hx
  have sy := y.size hy
  have ix := ask_info x.cells sx
  have iy := ask_info y.cells sy
  have x0 : x.cells[0]? = some (.int .u8 (x.dom : Int)) := askc_0 _ _ _ _ _ _ _
  have x1 : x.cells[1]? = some (.slice x.p x.parts.length x.c) := askc_1 _ _ _ _ _ _ _
  have y0 : y.cells[0]? = some (.int .u8 (y.dom : Int)) := askc_0 _ _ _ _ _ _ _
  have y1 : y.cells[1]? = some (.slice y.p y.parts.length y.c) := askc_1 _ _ _ _ _ _ _
  obtain ⟨CX, hCX⟩ : ∃ C, x.cells = C := ⟨_, rfl⟩
  obtain ⟨CY, hCY⟩ : ∃ C, y.cells = C := ⟨_, rfl⟩
  have hA := al2 w (.cells CX 33) (.cells CY 33)
  have hbA := bel2 w (.cells CX 33) (.cells CY 33)
  have hsX : ((w.alloc (.cells CX 33)).alloc (.cells CY 33)).heap.size = w.heap.size + 1 + 1 := by simp
  rw [hCX] at sx ix x0 x1
  rw [hCY] at sy iy y0 y1
  rw [hCX, hCY]
  have HCX := hide hCX
  have HCY := hide hCY
  have HA := hide hA
  have HbA := hide hbA
  have HsX := hide hsX
  have HD1 := hide hD1
  have HD2 := hide hD2
  have X0 := hide x0
  have X1 := hide x1
  have Y0 := hide y0
  have Y1 := hide y1
  have hi1 := digInfo D1 h1
  have hi2 := digInfo D2 h2
  have hz1 := zeroSize D1 h1
  have hz2 := zeroSize D2 h2
  have ho1 := bc_oneCell D1
  have ho2 := bc_oneCell D2
  have H1 := hide h1
  have H2 := hide h2
  clear hx hy tabs hCX hCY hA hbA hsX hD1 hD2 x0 x1 y0 y1 h1 h2
  go_enter Tryd.func5, Tryd.ntmps5
  go_wp2_with fail
  refine (dawake_calls _ ((unhide HT).below (unhide HbA) (Nat.le_refl _))).mono ?_
  rintro e w1 ⟨rfl, b1⟩
  have p0 := Below.at b1 (by have := unhide HsX; omega) (unhide HA).1
  have p1 := Below.at b1 (by have := unhide HsX; omega) (unhide HA).2
  have hb1 := (unhide HbA).trans (b1.mono (by have := unhide HsX; omega))
  have z1 : w.heap.size + 1 + 1 ≤ w1.heap.size := by have := b1.size; have := unhide HsX; omega
  clear b1 HsX HA HbA
  go_wp2_with (first
    | (refine wpList_load_row rfl 33 (.tmp 2) rfl w.heap.size rfl 33 _ (0, 0) _ p0 Tryd.underlying33 rfl ix ?_)
    | (refine wpList_load_row rfl 33 (.tmp 3) rfl (w.heap.size + 1) rfl 33 _ (0, 0) _ p1 Tryd.underlying33 rfl iy ?_)
    | (refine wpList_build_two rfl 22 33 (.tmp 12) (.tmp 13) rfl 67 104 (by decide) (by decide) CX CY rfl rfl sx sy Tryd.underlying22 (by kernel_rfl) ?_))
  have bL : Below w.heap.size w (w1.alloc (.cells (CX ++ CY) 33)) := hb1.alloc (by omega) _
  refine (light_calls x y w1.heap.size _ ((unhide HX).below bL (Nat.le_refl _)) ((unhide HY).below bL (Nat.le_refl _)) 33 (by rw [unhide HCX, unhide HCY]; exact al1 _ _)).mono ?_
  rintro e w2 ⟨rfl, b2⟩
  have b12 : Below w1.heap.size w1 w2 := ((Below.refl _ _).alloc (Nat.le_refl _) _).trans (b2.mono (by simp))
  have p0' := Below.at b12 (by omega) p0
  have p1' := Below.at b12 (by omega) p1
  have hb2 := hb1.trans (b12.mono (by omega))
  have z2 : w.heap.size + 1 + 1 ≤ w2.heap.size := by have := b12.size; omega
  obtain ⟨ok, hok⟩ : ∃ ok, (askOk x.parts && askOk y.parts) = ok := ⟨_, rfl⟩
  rw [hok]
  have Hok := hide hok
  clear bL b2 b12 p0 p1 hb1 z1 hok
  cases ok with
  | false =>
    go_wp2_with fail
    refine (dawake_calls _ ((unhide HT).below hb2 (Nat.le_refl _))).mono ?_
    rintro e w3 ⟨rfl, b3⟩
    have hb3 := hb2.trans (b3.mono hb2.size)
    go_wp2
    go_ret
    exact ⟨rfl, hb3⟩
  | true =>
    have hokk := unhide Hok
    rw [Bool.and_eq_true] at hokk
    have hax := askOk_spec hokk.1
    have hay := askOk_spec hokk.2
    have HP0 := hide p0'
    have HP1 := hide p1'
    have T2 := (unhide HT).below hb2 (Nat.le_refl _)
    have GX := (unhide HX).below hb2 (Nat.le_refl _)
    have GY := (unhide HY).below hb2 (Nat.le_refl _)
    have CO1 : Hid (∀ (b : Nat) (ms : Option (Nat × Nat)) (ins : List (List UInt8)) (W : World), ins.length < 1000000 → LogAt W b ms ins → Below w2.heap.size w2 W → Calls Tryd.prog 12 #[.pointer (some ⟨b, 0, none⟩), .int .u8 (x.dom : Int), .slice x.p x.parts.length x.c] W fun e w' => e = .returned (.agg (bc D1)) ∧ (∃ ms', LogAt w' b (some ms') (ins ++ [pInput x.dom x.parts]) ∧ ExtM W ms ms') ∧ But b ms W w') := hide fun b ms ins W hn hL hW => by
      have := ofLog_calls b ms ins hn x.dom GX.dom x.parts (fun p hp => Nat.le_trans (hax.2 p hp) (by decide)) (by omega) x.p x.c W (GX.strs.below hW (Nat.le_refl _)) hL (T2.below hW (Nat.le_refl _))
      rw [unhide HD1] at this
      exact this
    have CO2 : Hid (∀ (b : Nat) (ms : Option (Nat × Nat)) (ins : List (List UInt8)) (W : World), ins.length < 1000000 → LogAt W b ms ins → Below w2.heap.size w2 W → Calls Tryd.prog 12 #[.pointer (some ⟨b, 0, none⟩), .int .u8 (y.dom : Int), .slice y.p y.parts.length y.c] W fun e w' => e = .returned (.agg (bc D2)) ∧ (∃ ms', LogAt w' b (some ms') (ins ++ [pInput y.dom y.parts]) ∧ ExtM W ms ms') ∧ But b ms W w') := hide fun b ms ins W hn hL hW => by
      have := ofLog_calls b ms ins hn y.dom GY.dom y.parts (fun p hp => Nat.le_trans (hay.2 p hp) (by decide)) (by omega) y.p y.c W (GY.strs.below hW (Nat.le_refl _)) hL (T2.below hW (Nat.le_refl _))
      rw [unhide HD2] at this
      exact this
    have HAX := hide hax
    have HAY := hide hay
    have HGX := hide GX
    have HGY := hide GY
    have HT2 := hide T2
    have HB2 := hide hb2
    clear hokk hax hay T2 GX GY hb2 p0' p1' Hok HT
    go_wp2_with fail
    refine (newLog_calls w2).mono ?_
    rintro e w4 ⟨rfl, L4, b4, z4⟩
    have F00 : Fr w2 w2.heap.size none [] [] w4 := ⟨b4, Nat.le_refl _, fun m hm => by (cases hm), L4, fun q hq => by (cases hq)⟩
    have HF00 := hide F00
    obtain ⟨dx, hdx⟩ : ∃ d, x.dom = d := ⟨_, rfl⟩
    obtain ⟨dy, hdy⟩ : ∃ d, y.dom = d := ⟨_, rfl⟩
    obtain ⟨nx, hnx⟩ : ∃ d, x.parts.length = d := ⟨_, rfl⟩
    obtain ⟨ny, hny⟩ : ∃ d, y.parts.length = d := ⟨_, rfl⟩
    obtain ⟨px, hpx⟩ : ∃ d, x.p = d := ⟨_, rfl⟩
    obtain ⟨py, hpy⟩ : ∃ d, y.p = d := ⟨_, rfl⟩
    obtain ⟨cx, hcx⟩ : ∃ d, x.c = d := ⟨_, rfl⟩
    obtain ⟨cy, hcy⟩ : ∃ d, y.c = d := ⟨_, rfl⟩
    rw [hdx, hnx, hpx, hcx] at CO1
    rw [hdy, hny, hpy, hcy] at CO2
    have r0 : Hid (∀ W : World, Below w2.heap.size w2 W → W.cell? ⟨w.heap.size, 0, none⟩ = some (.int .u8 (dx : Int))) := hide fun W hW => by rw [← hdx, cell_of_row _ _ _ _ _ _ (Below.at hW (by omega) (unhide HP0))]; exact unhide X0
    have r1 : Hid (∀ W : World, Below w2.heap.size w2 W → W.cell? ⟨w.heap.size, 1, none⟩ = some (.slice px nx cx)) := hide fun W hW => by rw [← hpx, ← hnx, ← hcx, cell_of_row _ _ _ _ _ _ (Below.at hW (by omega) (unhide HP0))]; exact unhide X1
    have r2 : Hid (∀ W : World, Below w2.heap.size w2 W → W.cell? ⟨w.heap.size + 1, 0, none⟩ = some (.int .u8 (dy : Int))) := hide fun W hW => by rw [← hdy, cell_of_row _ _ _ _ _ _ (Below.at hW (by omega) (unhide HP1))]; exact unhide Y0
    have r3 : Hid (∀ W : World, Below w2.heap.size w2 W → W.cell? ⟨w.heap.size + 1, 1, none⟩ = some (.slice py ny cy)) := hide fun W hW => by rw [← hpy, ← hny, ← hcy, cell_of_row _ _ _ _ _ _ (Below.at hW (by omega) (unhide HP1))]; exact unhide Y1
    have Hdx := hide hdx
    have Hdy := hide hdy
    have Hnx := hide hnx
    have Hny := hide hny
    have Hpx := hide hpx
    have Hpy := hide hpy
    clear hdx hdy hnx hny hpx hpy hcx hcy L4 F00 b4 z4
    go_upto_region 6 with fail
    go_cut [6, 7] (fun p q wc => ∃ (g h : Nat) (m : Nat × Nat), p = .pointer (some ⟨g, 0, none⟩) ∧ q = .pointer (some ⟨h, 0, none⟩) ∧ Fr w2 w2.heap.size (some m) [pInput dx x.parts, pInput dy y.parts] [(h, bc D2), (g, bc D1)] wc)
    case first =>
      have F0' := unhide HF00
      have F0 : Fr w2 w2.heap.size none [] [] { w4 with drawn := w4.drawn + 1 } := ⟨F0'.bel.trans ⟨rfl, rfl, rfl, Nat.le_refl _, fun _ _ => rfl⟩, F0'.nb, F0'.nm, F0'.log.below' ⟨rfl, rfl, rfl, Nat.le_refl _, fun _ _ => rfl⟩, fun q hq => by (cases hq)⟩
      clear F0'
      refine wp_region_held (S := fun W => Below w2.heap.size w2 W) mixed ?_
      obtain ⟨d0, hd0⟩ : ∃ d, { w4 with drawn := w4.drawn + 1 } = d := ⟨_, rfl⟩
      rw [hd0] at F0
      rw [hd0]
      clear hd0
      refine wpAnyH_take (i := 0) (v := .pointer (some ⟨w2.heap.size, 0, none⟩)) rfl (by kernel_rfl) (by kernel_rfl) (by kernel_rfl) (fun _ _ _ h => h) (.inl ⟨rfl, fun _ _ => rfl⟩) F0.bel ?_
      refine wpAnyH_take (i := 1) (v := .pointer (some ⟨w.heap.size, 0, none⟩)) rfl (by kernel_rfl) (by kernel_rfl) (by kernel_rfl) (fun _ _ _ h => h) (.inl ⟨rfl, fun _ _ => rfl⟩) F0.bel ?_
      refine wpAnyH_take (i := 2) (v := .int .u8 (dx : Int)) rfl (by kernel_rfl) (by kernel_rfl) (by kernel_rfl) (fun _ _ _ h => h) (.inl ⟨rfl, fun W hW => by have c2 := unhide r0 W hW; go_simp⟩) F0.bel ?_
      go_simp
      refine wpAnyH_take (i := 3) (v := .pointer (some ⟨w.heap.size, 1, none⟩)) rfl (by kernel_rfl) (by kernel_rfl) (by kernel_rfl) (fun _ _ _ h => h) (.inl ⟨rfl, fun _ _ => rfl⟩) F0.bel ?_
      refine wpAnyH_take (i := 4) (v := .slice px nx cx) rfl (by kernel_rfl) (by kernel_rfl) (by kernel_rfl) (fun _ _ _ h => h) (.inl ⟨rfl, fun W hW => by have c2 := unhide r1 W hW; go_simp⟩) F0.bel ?_
      go_simp
      refine wpAnyH_take (i := 6) (v := .pointer (some ⟨w2.heap.size, 0, none⟩)) rfl (by kernel_rfl) (by kernel_rfl) (by kernel_rfl) (fun _ _ _ h => h) (.inl ⟨rfl, fun _ _ => rfl⟩) F0.bel ?_
      refine wpAnyH_take (i := 7) (v := .pointer (some ⟨w.heap.size + 1, 0, none⟩)) rfl (by kernel_rfl) (by kernel_rfl) (by kernel_rfl) (fun _ _ _ h => h) (.inl ⟨rfl, fun _ _ => rfl⟩) F0.bel ?_
      go_simp
      refine wpAnyH_take (i := 8) (v := .int .u8 (dy : Int)) rfl (by kernel_rfl) (by kernel_rfl) (by kernel_rfl) (fun _ _ _ h => h) (.inl ⟨rfl, fun W hW => by have c2 := unhide r2 W hW; go_simp⟩) F0.bel ?_
      refine wpAnyH_take (i := 9) (v := .pointer (some ⟨w.heap.size + 1, 1, none⟩)) rfl (by kernel_rfl) (by kernel_rfl) (by kernel_rfl) (fun _ _ _ h => h) (.inl ⟨rfl, fun _ _ => rfl⟩) F0.bel ?_
      go_simp
      refine wpAnyH_take (i := 10) (v := .slice py ny cy) rfl (by kernel_rfl) (by kernel_rfl) (by kernel_rfl) (fun _ _ _ h => h) (.inl ⟨rfl, fun W hW => by have c2 := unhide r3 W hW; go_simp⟩) F0.bel ?_
      go_simp
      refine wpAnyH_three 5 12 13 _ _ _ (by kernel_rfl) rfl rfl rfl ?_ ?_ ?_
      · go_wp2_with fail
        refine (unhide CO1 _ _ _ _ (by simp) F0.log F0.bel).mono ?_
        rintro e v1 ⟨rfl, ⟨mv1, Lv1, Xv1⟩, Bv1⟩
        have F2 := F0.call Lv1 Xv1 Bv1
        clear Lv1 Xv1 Bv1
        go_wp2
        refine ⟨F2.bel, ?_⟩
        refine wpAnyH_three 11 12 13 _ _ _ (by kernel_rfl) rfl rfl rfl ?_ ?_ ?_
        · go_wp2_with fail
          refine (unhide CO2 _ _ _ _ (by simp) F2.log F2.bel).mono ?_
          rintro e v3 ⟨rfl, ⟨mv3, Lv3, Xv3⟩, Bv3⟩
          have F4 := F2.call Lv3 Xv3 Bv3
          clear Lv3 Xv3 Bv3
          go_wp2
          refine ⟨F4.bel, ?_⟩
          refine wpAnyH_two 12 13 _ _ (by kernel_rfl) rfl rfl ?_ ?_
          · go_wp2
            have F6 := F4.alloc (bc (List.replicate 32 (0 : UInt8)))
            refine ⟨F6.bel, ?_⟩
            change wpAnyH _ _ _ _ _ _ _ _ (v3.alloc (.cells (bc (List.replicate 32 (0 : UInt8))) 24))
            obtain ⟨y5, hy5⟩ : ∃ Y, v3.alloc (.cells (bc (List.replicate 32 (0 : UInt8))) 24) = Y := ⟨_, rfl⟩
            rw [hy5] at F6
            rw [hy5]
            clear hy5
            refine wpAnyH_one 13 _ (by kernel_rfl) rfl ?_
            go_wp2
            have F8 := F6.alloc (bc (List.replicate 32 (0 : UInt8)))
            have ne9 : v3.heap.size ≠ y5.heap.size := F6.fresh _ List.mem_cons_self
            refine ⟨F8.bel, ?_⟩
            change wpAnyH _ _ _ _ _ _ _ _ (y5.alloc (.cells (bc (List.replicate 32 (0 : UInt8))) 24))
            obtain ⟨y7, hy7⟩ : ∃ Y, y5.alloc (.cells (bc (List.replicate 32 (0 : UInt8))) 24) = Y := ⟨_, rfl⟩
            rw [hy7] at F8
            rw [hy7]
            clear hy7
            refine wpAnyH_one 14 _ (by kernel_rfl) rfl ?_
            go_wp2_with (refine wpList_store_row rfl 24 (.tmp 6) (.tmp 24) rfl v3.heap.size (bc D1) rfl rfl 24 _ (F8.cells (v3.heap.size, (bc (List.replicate 32 (0 : UInt8)))) (by first | exact List.mem_cons_self | exact List.mem_cons_of_mem _ List.mem_cons_self)).1 hi1 hz1 ho1 ?_)
            have F10 := F8.set (bc D1) (g := v3.heap.size) (Z := (bc (List.replicate 32 (0 : UInt8)))) (g' := y5.heap.size) (Z' := (bc (List.replicate 32 (0 : UInt8)))) (by first | exact List.mem_cons_self | exact List.mem_cons_of_mem _ List.mem_cons_self) (by first | exact List.mem_cons_self | exact List.mem_cons_of_mem _ List.mem_cons_self) ne9
            refine ⟨F10.bel, ?_⟩
            change wpAnyH _ _ _ _ _ _ _ _ (y7.setRow v3.heap.size (bc D1))
            obtain ⟨u12, hu12⟩ : ∃ Y, y7.setRow v3.heap.size (bc D1) = Y := ⟨_, rfl⟩
            rw [hu12] at F10
            rw [hu12]
            clear hu12
            refine wpAnyH_one 15 _ (by kernel_rfl) rfl ?_
            go_wp2_with (refine wpList_store_row rfl 24 (.tmp 7) (.tmp 30) rfl y5.heap.size (bc D2) rfl rfl 24 _ (F10.cells (y5.heap.size, (bc (List.replicate 32 (0 : UInt8)))) (by first | exact List.mem_cons_self | exact List.mem_cons_of_mem _ List.mem_cons_self)).1 hi2 hz2 ho2 ?_)
            have F11 := F10.set (bc D2) (g := y5.heap.size) (Z := (bc (List.replicate 32 (0 : UInt8)))) (g' := v3.heap.size) (Z' := bc D1) (by first | exact List.mem_cons_self | exact List.mem_cons_of_mem _ List.mem_cons_self) (by first | exact List.mem_cons_self | exact List.mem_cons_of_mem _ List.mem_cons_self) ne9.symm
            refine ⟨F11.bel, wpAnyH_done (by kernel_rfl) ?_ _⟩
            go_wp2
            go_meet
            case rel => exact ⟨_, _, _, rfl, rfl, F11⟩
          · go_wp2
            have F14 := F4.alloc (bc (List.replicate 32 (0 : UInt8)))
            refine ⟨F14.bel, ?_⟩
            change wpAnyH _ _ _ _ _ _ _ _ (v3.alloc (.cells (bc (List.replicate 32 (0 : UInt8))) 24))
            obtain ⟨y13, hy13⟩ : ∃ Y, v3.alloc (.cells (bc (List.replicate 32 (0 : UInt8))) 24) = Y := ⟨_, rfl⟩
            rw [hy13] at F14
            rw [hy13]
            clear hy13
            refine wpAnyH_one 12 _ (by kernel_rfl) rfl ?_
            go_wp2
            have F16 := F14.alloc (bc (List.replicate 32 (0 : UInt8)))
            have ne17 : v3.heap.size ≠ y13.heap.size := F14.fresh _ List.mem_cons_self
            refine ⟨F16.bel, ?_⟩
            change wpAnyH _ _ _ _ _ _ _ _ (y13.alloc (.cells (bc (List.replicate 32 (0 : UInt8))) 24))
            obtain ⟨y15, hy15⟩ : ∃ Y, y13.alloc (.cells (bc (List.replicate 32 (0 : UInt8))) 24) = Y := ⟨_, rfl⟩
            rw [hy15] at F16
            rw [hy15]
            clear hy15
            refine wpAnyH_one 14 _ (by kernel_rfl) rfl ?_
            go_wp2_with (refine wpList_store_row rfl 24 (.tmp 6) (.tmp 24) rfl y13.heap.size (bc D1) rfl rfl 24 _ (F16.cells (y13.heap.size, (bc (List.replicate 32 (0 : UInt8)))) (by first | exact List.mem_cons_self | exact List.mem_cons_of_mem _ List.mem_cons_self)).1 hi1 hz1 ho1 ?_)
            have F18 := F16.set (bc D1) (g := y13.heap.size) (Z := (bc (List.replicate 32 (0 : UInt8)))) (g' := v3.heap.size) (Z' := (bc (List.replicate 32 (0 : UInt8)))) (by first | exact List.mem_cons_self | exact List.mem_cons_of_mem _ List.mem_cons_self) (by first | exact List.mem_cons_self | exact List.mem_cons_of_mem _ List.mem_cons_self) ne17.symm
            refine ⟨F18.bel, ?_⟩
            change wpAnyH _ _ _ _ _ _ _ _ (y15.setRow y13.heap.size (bc D1))
            obtain ⟨u20, hu20⟩ : ∃ Y, y15.setRow y13.heap.size (bc D1) = Y := ⟨_, rfl⟩
            rw [hu20] at F18
            rw [hu20]
            clear hu20
            refine wpAnyH_one 15 _ (by kernel_rfl) rfl ?_
            go_wp2_with (refine wpList_store_row rfl 24 (.tmp 7) (.tmp 30) rfl v3.heap.size (bc D2) rfl rfl 24 _ (F18.cells (v3.heap.size, (bc (List.replicate 32 (0 : UInt8)))) (by first | exact List.mem_cons_self | exact List.mem_cons_of_mem _ List.mem_cons_self)).1 hi2 hz2 ho2 ?_)
            have F19 := F18.set (bc D2) (g := v3.heap.size) (Z := (bc (List.replicate 32 (0 : UInt8)))) (g' := y13.heap.size) (Z' := bc D1) (by first | exact List.mem_cons_self | exact List.mem_cons_of_mem _ List.mem_cons_self) (by first | exact List.mem_cons_self | exact List.mem_cons_of_mem _ List.mem_cons_self) ne17
            refine ⟨F19.bel, wpAnyH_done (by kernel_rfl) ?_ _⟩
            go_wp2
            go_meet
            case rel => exact ⟨_, _, _, rfl, rfl, F19⟩
        · go_wp2
          have F22 := F2.alloc (bc (List.replicate 32 (0 : UInt8)))
          refine ⟨F22.bel, ?_⟩
          change wpAnyH _ _ _ _ _ _ _ _ (v1.alloc (.cells (bc (List.replicate 32 (0 : UInt8))) 24))
          obtain ⟨y21, hy21⟩ : ∃ Y, v1.alloc (.cells (bc (List.replicate 32 (0 : UInt8))) 24) = Y := ⟨_, rfl⟩
          rw [hy21] at F22
          rw [hy21]
          clear hy21
          refine wpAnyH_two 11 13 _ _ (by kernel_rfl) rfl rfl ?_ ?_
          · go_wp2_with fail
            refine (unhide CO2 _ _ _ _ (by simp) F22.log F22.bel).mono ?_
            rintro e v23 ⟨rfl, ⟨mv23, Lv23, Xv23⟩, Bv23⟩
            have F24 := F22.call Lv23 Xv23 Bv23
            clear Lv23 Xv23 Bv23
            go_wp2
            refine ⟨F24.bel, ?_⟩
            refine wpAnyH_one 13 _ (by kernel_rfl) rfl ?_
            go_wp2
            have F26 := F24.alloc (bc (List.replicate 32 (0 : UInt8)))
            have ne27 : v1.heap.size ≠ v23.heap.size := F24.fresh _ List.mem_cons_self
            refine ⟨F26.bel, ?_⟩
            change wpAnyH _ _ _ _ _ _ _ _ (v23.alloc (.cells (bc (List.replicate 32 (0 : UInt8))) 24))
            obtain ⟨y25, hy25⟩ : ∃ Y, v23.alloc (.cells (bc (List.replicate 32 (0 : UInt8))) 24) = Y := ⟨_, rfl⟩
            rw [hy25] at F26
            rw [hy25]
            clear hy25
            refine wpAnyH_one 14 _ (by kernel_rfl) rfl ?_
            go_wp2_with (refine wpList_store_row rfl 24 (.tmp 6) (.tmp 24) rfl v1.heap.size (bc D1) rfl rfl 24 _ (F26.cells (v1.heap.size, (bc (List.replicate 32 (0 : UInt8)))) (by first | exact List.mem_cons_self | exact List.mem_cons_of_mem _ List.mem_cons_self)).1 hi1 hz1 ho1 ?_)
            have F28 := F26.set (bc D1) (g := v1.heap.size) (Z := (bc (List.replicate 32 (0 : UInt8)))) (g' := v23.heap.size) (Z' := (bc (List.replicate 32 (0 : UInt8)))) (by first | exact List.mem_cons_self | exact List.mem_cons_of_mem _ List.mem_cons_self) (by first | exact List.mem_cons_self | exact List.mem_cons_of_mem _ List.mem_cons_self) ne27
            refine ⟨F28.bel, ?_⟩
            change wpAnyH _ _ _ _ _ _ _ _ (y25.setRow v1.heap.size (bc D1))
            obtain ⟨u30, hu30⟩ : ∃ Y, y25.setRow v1.heap.size (bc D1) = Y := ⟨_, rfl⟩
            rw [hu30] at F28
            rw [hu30]
            clear hu30
            refine wpAnyH_one 15 _ (by kernel_rfl) rfl ?_
            go_wp2_with (refine wpList_store_row rfl 24 (.tmp 7) (.tmp 30) rfl v23.heap.size (bc D2) rfl rfl 24 _ (F28.cells (v23.heap.size, (bc (List.replicate 32 (0 : UInt8)))) (by first | exact List.mem_cons_self | exact List.mem_cons_of_mem _ List.mem_cons_self)).1 hi2 hz2 ho2 ?_)
            have F29 := F28.set (bc D2) (g := v23.heap.size) (Z := (bc (List.replicate 32 (0 : UInt8)))) (g' := v1.heap.size) (Z' := bc D1) (by first | exact List.mem_cons_self | exact List.mem_cons_of_mem _ List.mem_cons_self) (by first | exact List.mem_cons_self | exact List.mem_cons_of_mem _ List.mem_cons_self) ne27.symm
            refine ⟨F29.bel, wpAnyH_done (by kernel_rfl) ?_ _⟩
            go_wp2
            go_meet
            case rel => exact ⟨_, _, _, rfl, rfl, F29⟩
          · go_wp2
            have F32 := F22.alloc (bc (List.replicate 32 (0 : UInt8)))
            have ne33 : v1.heap.size ≠ y21.heap.size := F22.fresh _ List.mem_cons_self
            refine ⟨F32.bel, ?_⟩
            change wpAnyH _ _ _ _ _ _ _ _ (y21.alloc (.cells (bc (List.replicate 32 (0 : UInt8))) 24))
            obtain ⟨y31, hy31⟩ : ∃ Y, y21.alloc (.cells (bc (List.replicate 32 (0 : UInt8))) 24) = Y := ⟨_, rfl⟩
            rw [hy31] at F32
            rw [hy31]
            clear hy31
            refine wpAnyH_one 11 _ (by kernel_rfl) rfl ?_
            go_wp2_with fail
            refine (unhide CO2 _ _ _ _ (by simp) F32.log F32.bel).mono ?_
            rintro e v34 ⟨rfl, ⟨mv34, Lv34, Xv34⟩, Bv34⟩
            have F35 := F32.call Lv34 Xv34 Bv34
            clear Lv34 Xv34 Bv34
            go_wp2
            refine ⟨F35.bel, ?_⟩
            refine wpAnyH_one 14 _ (by kernel_rfl) rfl ?_
            go_wp2_with (refine wpList_store_row rfl 24 (.tmp 6) (.tmp 24) rfl v1.heap.size (bc D1) rfl rfl 24 _ (F35.cells (v1.heap.size, (bc (List.replicate 32 (0 : UInt8)))) (by first | exact List.mem_cons_self | exact List.mem_cons_of_mem _ List.mem_cons_self)).1 hi1 hz1 ho1 ?_)
            have F36 := F35.set (bc D1) (g := v1.heap.size) (Z := (bc (List.replicate 32 (0 : UInt8)))) (g' := y21.heap.size) (Z' := (bc (List.replicate 32 (0 : UInt8)))) (by first | exact List.mem_cons_self | exact List.mem_cons_of_mem _ List.mem_cons_self) (by first | exact List.mem_cons_self | exact List.mem_cons_of_mem _ List.mem_cons_self) ne33
            refine ⟨F36.bel, ?_⟩
            change wpAnyH _ _ _ _ _ _ _ _ (v34.setRow v1.heap.size (bc D1))
            obtain ⟨u38, hu38⟩ : ∃ Y, v34.setRow v1.heap.size (bc D1) = Y := ⟨_, rfl⟩
            rw [hu38] at F36
            rw [hu38]
            clear hu38
            refine wpAnyH_one 15 _ (by kernel_rfl) rfl ?_
            go_wp2_with (refine wpList_store_row rfl 24 (.tmp 7) (.tmp 30) rfl y21.heap.size (bc D2) rfl rfl 24 _ (F36.cells (y21.heap.size, (bc (List.replicate 32 (0 : UInt8)))) (by first | exact List.mem_cons_self | exact List.mem_cons_of_mem _ List.mem_cons_self)).1 hi2 hz2 ho2 ?_)
            have F37 := F36.set (bc D2) (g := y21.heap.size) (Z := (bc (List.replicate 32 (0 : UInt8)))) (g' := v1.heap.size) (Z' := bc D1) (by first | exact List.mem_cons_self | exact List.mem_cons_of_mem _ List.mem_cons_self) (by first | exact List.mem_cons_self | exact List.mem_cons_of_mem _ List.mem_cons_self) ne33.symm
            refine ⟨F37.bel, wpAnyH_done (by kernel_rfl) ?_ _⟩
            go_wp2
            go_meet
            case rel => exact ⟨_, _, _, rfl, rfl, F37⟩
        · go_wp2
          have F40 := F2.alloc (bc (List.replicate 32 (0 : UInt8)))
          refine ⟨F40.bel, ?_⟩
          change wpAnyH _ _ _ _ _ _ _ _ (v1.alloc (.cells (bc (List.replicate 32 (0 : UInt8))) 24))
          obtain ⟨y39, hy39⟩ : ∃ Y, v1.alloc (.cells (bc (List.replicate 32 (0 : UInt8))) 24) = Y := ⟨_, rfl⟩
          rw [hy39] at F40
          rw [hy39]
          clear hy39
          refine wpAnyH_two 11 12 _ _ (by kernel_rfl) rfl rfl ?_ ?_
          · go_wp2_with fail
            refine (unhide CO2 _ _ _ _ (by simp) F40.log F40.bel).mono ?_
            rintro e v41 ⟨rfl, ⟨mv41, Lv41, Xv41⟩, Bv41⟩
            have F42 := F40.call Lv41 Xv41 Bv41
            clear Lv41 Xv41 Bv41
            go_wp2
            refine ⟨F42.bel, ?_⟩
            refine wpAnyH_one 12 _ (by kernel_rfl) rfl ?_
            go_wp2
            have F44 := F42.alloc (bc (List.replicate 32 (0 : UInt8)))
            have ne45 : v1.heap.size ≠ v41.heap.size := F42.fresh _ List.mem_cons_self
            refine ⟨F44.bel, ?_⟩
            change wpAnyH _ _ _ _ _ _ _ _ (v41.alloc (.cells (bc (List.replicate 32 (0 : UInt8))) 24))
            obtain ⟨y43, hy43⟩ : ∃ Y, v41.alloc (.cells (bc (List.replicate 32 (0 : UInt8))) 24) = Y := ⟨_, rfl⟩
            rw [hy43] at F44
            rw [hy43]
            clear hy43
            refine wpAnyH_one 14 _ (by kernel_rfl) rfl ?_
            go_wp2_with (refine wpList_store_row rfl 24 (.tmp 6) (.tmp 24) rfl v41.heap.size (bc D1) rfl rfl 24 _ (F44.cells (v41.heap.size, (bc (List.replicate 32 (0 : UInt8)))) (by first | exact List.mem_cons_self | exact List.mem_cons_of_mem _ List.mem_cons_self)).1 hi1 hz1 ho1 ?_)
            have F46 := F44.set (bc D1) (g := v41.heap.size) (Z := (bc (List.replicate 32 (0 : UInt8)))) (g' := v1.heap.size) (Z' := (bc (List.replicate 32 (0 : UInt8)))) (by first | exact List.mem_cons_self | exact List.mem_cons_of_mem _ List.mem_cons_self) (by first | exact List.mem_cons_self | exact List.mem_cons_of_mem _ List.mem_cons_self) ne45.symm
            refine ⟨F46.bel, ?_⟩
            change wpAnyH _ _ _ _ _ _ _ _ (y43.setRow v41.heap.size (bc D1))
            obtain ⟨u48, hu48⟩ : ∃ Y, y43.setRow v41.heap.size (bc D1) = Y := ⟨_, rfl⟩
            rw [hu48] at F46
            rw [hu48]
            clear hu48
            refine wpAnyH_one 15 _ (by kernel_rfl) rfl ?_
            go_wp2_with (refine wpList_store_row rfl 24 (.tmp 7) (.tmp 30) rfl v1.heap.size (bc D2) rfl rfl 24 _ (F46.cells (v1.heap.size, (bc (List.replicate 32 (0 : UInt8)))) (by first | exact List.mem_cons_self | exact List.mem_cons_of_mem _ List.mem_cons_self)).1 hi2 hz2 ho2 ?_)
            have F47 := F46.set (bc D2) (g := v1.heap.size) (Z := (bc (List.replicate 32 (0 : UInt8)))) (g' := v41.heap.size) (Z' := bc D1) (by first | exact List.mem_cons_self | exact List.mem_cons_of_mem _ List.mem_cons_self) (by first | exact List.mem_cons_self | exact List.mem_cons_of_mem _ List.mem_cons_self) ne45
            refine ⟨F47.bel, wpAnyH_done (by kernel_rfl) ?_ _⟩
            go_wp2
            go_meet
            case rel => exact ⟨_, _, _, rfl, rfl, F47⟩
          · go_wp2
            have F50 := F40.alloc (bc (List.replicate 32 (0 : UInt8)))
            have ne51 : v1.heap.size ≠ y39.heap.size := F40.fresh _ List.mem_cons_self
            refine ⟨F50.bel, ?_⟩
            change wpAnyH _ _ _ _ _ _ _ _ (y39.alloc (.cells (bc (List.replicate 32 (0 : UInt8))) 24))
            obtain ⟨y49, hy49⟩ : ∃ Y, y39.alloc (.cells (bc (List.replicate 32 (0 : UInt8))) 24) = Y := ⟨_, rfl⟩
            rw [hy49] at F50
            rw [hy49]
            clear hy49
            refine wpAnyH_one 11 _ (by kernel_rfl) rfl ?_
            go_wp2_with fail
            refine (unhide CO2 _ _ _ _ (by simp) F50.log F50.bel).mono ?_
            rintro e v52 ⟨rfl, ⟨mv52, Lv52, Xv52⟩, Bv52⟩
            have F53 := F50.call Lv52 Xv52 Bv52
            clear Lv52 Xv52 Bv52
            go_wp2
            refine ⟨F53.bel, ?_⟩
            refine wpAnyH_one 14 _ (by kernel_rfl) rfl ?_
            go_wp2_with (refine wpList_store_row rfl 24 (.tmp 6) (.tmp 24) rfl y39.heap.size (bc D1) rfl rfl 24 _ (F53.cells (y39.heap.size, (bc (List.replicate 32 (0 : UInt8)))) (by first | exact List.mem_cons_self | exact List.mem_cons_of_mem _ List.mem_cons_self)).1 hi1 hz1 ho1 ?_)
            have F54 := F53.set (bc D1) (g := y39.heap.size) (Z := (bc (List.replicate 32 (0 : UInt8)))) (g' := v1.heap.size) (Z' := (bc (List.replicate 32 (0 : UInt8)))) (by first | exact List.mem_cons_self | exact List.mem_cons_of_mem _ List.mem_cons_self) (by first | exact List.mem_cons_self | exact List.mem_cons_of_mem _ List.mem_cons_self) ne51.symm
            refine ⟨F54.bel, ?_⟩
            change wpAnyH _ _ _ _ _ _ _ _ (v52.setRow y39.heap.size (bc D1))
            obtain ⟨u56, hu56⟩ : ∃ Y, v52.setRow y39.heap.size (bc D1) = Y := ⟨_, rfl⟩
            rw [hu56] at F54
            rw [hu56]
            clear hu56
            refine wpAnyH_one 15 _ (by kernel_rfl) rfl ?_
            go_wp2_with (refine wpList_store_row rfl 24 (.tmp 7) (.tmp 30) rfl v1.heap.size (bc D2) rfl rfl 24 _ (F54.cells (v1.heap.size, (bc (List.replicate 32 (0 : UInt8)))) (by first | exact List.mem_cons_self | exact List.mem_cons_of_mem _ List.mem_cons_self)).1 hi2 hz2 ho2 ?_)
            have F55 := F54.set (bc D2) (g := v1.heap.size) (Z := (bc (List.replicate 32 (0 : UInt8)))) (g' := y39.heap.size) (Z' := bc D1) (by first | exact List.mem_cons_self | exact List.mem_cons_of_mem _ List.mem_cons_self) (by first | exact List.mem_cons_self | exact List.mem_cons_of_mem _ List.mem_cons_self) ne51
            refine ⟨F55.bel, wpAnyH_done (by kernel_rfl) ?_ _⟩
            go_wp2
            go_meet
            case rel => exact ⟨_, _, _, rfl, rfl, F55⟩
      · go_wp2
        have F58 := F0.alloc (bc (List.replicate 32 (0 : UInt8)))
        refine ⟨F58.bel, ?_⟩
        change wpAnyH _ _ _ _ _ _ _ _ (d0.alloc (.cells (bc (List.replicate 32 (0 : UInt8))) 24))
        obtain ⟨y57, hy57⟩ : ∃ Y, d0.alloc (.cells (bc (List.replicate 32 (0 : UInt8))) 24) = Y := ⟨_, rfl⟩
        rw [hy57] at F58
        rw [hy57]
        clear hy57
        refine wpAnyH_two 5 13 _ _ (by kernel_rfl) rfl rfl ?_ ?_
        · go_wp2_with fail
          refine (unhide CO1 _ _ _ _ (by simp) F58.log F58.bel).mono ?_
          rintro e v59 ⟨rfl, ⟨mv59, Lv59, Xv59⟩, Bv59⟩
          have F60 := F58.call Lv59 Xv59 Bv59
          clear Lv59 Xv59 Bv59
          go_wp2
          refine ⟨F60.bel, ?_⟩
          refine wpAnyH_two 11 13 _ _ (by kernel_rfl) rfl rfl ?_ ?_
          · go_wp2_with fail
            refine (unhide CO2 _ _ _ _ (by simp) F60.log F60.bel).mono ?_
            rintro e v61 ⟨rfl, ⟨mv61, Lv61, Xv61⟩, Bv61⟩
            have F62 := F60.call Lv61 Xv61 Bv61
            clear Lv61 Xv61 Bv61
            go_wp2
            refine ⟨F62.bel, ?_⟩
            refine wpAnyH_one 13 _ (by kernel_rfl) rfl ?_
            go_wp2
            have F64 := F62.alloc (bc (List.replicate 32 (0 : UInt8)))
            have ne65 : d0.heap.size ≠ v61.heap.size := F62.fresh _ List.mem_cons_self
            refine ⟨F64.bel, ?_⟩
            change wpAnyH _ _ _ _ _ _ _ _ (v61.alloc (.cells (bc (List.replicate 32 (0 : UInt8))) 24))
            obtain ⟨y63, hy63⟩ : ∃ Y, v61.alloc (.cells (bc (List.replicate 32 (0 : UInt8))) 24) = Y := ⟨_, rfl⟩
            rw [hy63] at F64
            rw [hy63]
            clear hy63
            refine wpAnyH_one 14 _ (by kernel_rfl) rfl ?_
            go_wp2_with (refine wpList_store_row rfl 24 (.tmp 6) (.tmp 24) rfl d0.heap.size (bc D1) rfl rfl 24 _ (F64.cells (d0.heap.size, (bc (List.replicate 32 (0 : UInt8)))) (by first | exact List.mem_cons_self | exact List.mem_cons_of_mem _ List.mem_cons_self)).1 hi1 hz1 ho1 ?_)
            have F66 := F64.set (bc D1) (g := d0.heap.size) (Z := (bc (List.replicate 32 (0 : UInt8)))) (g' := v61.heap.size) (Z' := (bc (List.replicate 32 (0 : UInt8)))) (by first | exact List.mem_cons_self | exact List.mem_cons_of_mem _ List.mem_cons_self) (by first | exact List.mem_cons_self | exact List.mem_cons_of_mem _ List.mem_cons_self) ne65
            refine ⟨F66.bel, ?_⟩
            change wpAnyH _ _ _ _ _ _ _ _ (y63.setRow d0.heap.size (bc D1))
            obtain ⟨u68, hu68⟩ : ∃ Y, y63.setRow d0.heap.size (bc D1) = Y := ⟨_, rfl⟩
            rw [hu68] at F66
            rw [hu68]
            clear hu68
            refine wpAnyH_one 15 _ (by kernel_rfl) rfl ?_
            go_wp2_with (refine wpList_store_row rfl 24 (.tmp 7) (.tmp 30) rfl v61.heap.size (bc D2) rfl rfl 24 _ (F66.cells (v61.heap.size, (bc (List.replicate 32 (0 : UInt8)))) (by first | exact List.mem_cons_self | exact List.mem_cons_of_mem _ List.mem_cons_self)).1 hi2 hz2 ho2 ?_)
            have F67 := F66.set (bc D2) (g := v61.heap.size) (Z := (bc (List.replicate 32 (0 : UInt8)))) (g' := d0.heap.size) (Z' := bc D1) (by first | exact List.mem_cons_self | exact List.mem_cons_of_mem _ List.mem_cons_self) (by first | exact List.mem_cons_self | exact List.mem_cons_of_mem _ List.mem_cons_self) ne65.symm
            refine ⟨F67.bel, wpAnyH_done (by kernel_rfl) ?_ _⟩
            go_wp2
            go_meet
            case rel => exact ⟨_, _, _, rfl, rfl, F67⟩
          · go_wp2
            have F70 := F60.alloc (bc (List.replicate 32 (0 : UInt8)))
            have ne71 : d0.heap.size ≠ v59.heap.size := F60.fresh _ List.mem_cons_self
            refine ⟨F70.bel, ?_⟩
            change wpAnyH _ _ _ _ _ _ _ _ (v59.alloc (.cells (bc (List.replicate 32 (0 : UInt8))) 24))
            obtain ⟨y69, hy69⟩ : ∃ Y, v59.alloc (.cells (bc (List.replicate 32 (0 : UInt8))) 24) = Y := ⟨_, rfl⟩
            rw [hy69] at F70
            rw [hy69]
            clear hy69
            refine wpAnyH_one 11 _ (by kernel_rfl) rfl ?_
            go_wp2_with fail
            refine (unhide CO2 _ _ _ _ (by simp) F70.log F70.bel).mono ?_
            rintro e v72 ⟨rfl, ⟨mv72, Lv72, Xv72⟩, Bv72⟩
            have F73 := F70.call Lv72 Xv72 Bv72
            clear Lv72 Xv72 Bv72
            go_wp2
            refine ⟨F73.bel, ?_⟩
            refine wpAnyH_one 14 _ (by kernel_rfl) rfl ?_
            go_wp2_with (refine wpList_store_row rfl 24 (.tmp 6) (.tmp 24) rfl d0.heap.size (bc D1) rfl rfl 24 _ (F73.cells (d0.heap.size, (bc (List.replicate 32 (0 : UInt8)))) (by first | exact List.mem_cons_self | exact List.mem_cons_of_mem _ List.mem_cons_self)).1 hi1 hz1 ho1 ?_)
            have F74 := F73.set (bc D1) (g := d0.heap.size) (Z := (bc (List.replicate 32 (0 : UInt8)))) (g' := v59.heap.size) (Z' := (bc (List.replicate 32 (0 : UInt8)))) (by first | exact List.mem_cons_self | exact List.mem_cons_of_mem _ List.mem_cons_self) (by first | exact List.mem_cons_self | exact List.mem_cons_of_mem _ List.mem_cons_self) ne71
            refine ⟨F74.bel, ?_⟩
            change wpAnyH _ _ _ _ _ _ _ _ (v72.setRow d0.heap.size (bc D1))
            obtain ⟨u76, hu76⟩ : ∃ Y, v72.setRow d0.heap.size (bc D1) = Y := ⟨_, rfl⟩
            rw [hu76] at F74
            rw [hu76]
            clear hu76
            refine wpAnyH_one 15 _ (by kernel_rfl) rfl ?_
            go_wp2_with (refine wpList_store_row rfl 24 (.tmp 7) (.tmp 30) rfl v59.heap.size (bc D2) rfl rfl 24 _ (F74.cells (v59.heap.size, (bc (List.replicate 32 (0 : UInt8)))) (by first | exact List.mem_cons_self | exact List.mem_cons_of_mem _ List.mem_cons_self)).1 hi2 hz2 ho2 ?_)
            have F75 := F74.set (bc D2) (g := v59.heap.size) (Z := (bc (List.replicate 32 (0 : UInt8)))) (g' := d0.heap.size) (Z' := bc D1) (by first | exact List.mem_cons_self | exact List.mem_cons_of_mem _ List.mem_cons_self) (by first | exact List.mem_cons_self | exact List.mem_cons_of_mem _ List.mem_cons_self) ne71.symm
            refine ⟨F75.bel, wpAnyH_done (by kernel_rfl) ?_ _⟩
            go_wp2
            go_meet
            case rel => exact ⟨_, _, _, rfl, rfl, F75⟩
        · go_wp2
          have F78 := F58.alloc (bc (List.replicate 32 (0 : UInt8)))
          have ne79 : d0.heap.size ≠ y57.heap.size := F58.fresh _ List.mem_cons_self
          refine ⟨F78.bel, ?_⟩
          change wpAnyH _ _ _ _ _ _ _ _ (y57.alloc (.cells (bc (List.replicate 32 (0 : UInt8))) 24))
          obtain ⟨y77, hy77⟩ : ∃ Y, y57.alloc (.cells (bc (List.replicate 32 (0 : UInt8))) 24) = Y := ⟨_, rfl⟩
          rw [hy77] at F78
          rw [hy77]
          clear hy77
          refine wpAnyH_one 5 _ (by kernel_rfl) rfl ?_
          go_wp2_with fail
          refine (unhide CO1 _ _ _ _ (by simp) F78.log F78.bel).mono ?_
          rintro e v80 ⟨rfl, ⟨mv80, Lv80, Xv80⟩, Bv80⟩
          have F81 := F78.call Lv80 Xv80 Bv80
          clear Lv80 Xv80 Bv80
          go_wp2
          refine ⟨F81.bel, ?_⟩
          refine wpAnyH_one 11 _ (by kernel_rfl) rfl ?_
          go_wp2_with fail
          refine (unhide CO2 _ _ _ _ (by simp) F81.log F81.bel).mono ?_
          rintro e v82 ⟨rfl, ⟨mv82, Lv82, Xv82⟩, Bv82⟩
          have F83 := F81.call Lv82 Xv82 Bv82
          clear Lv82 Xv82 Bv82
          go_wp2
          refine ⟨F83.bel, ?_⟩
          refine wpAnyH_one 14 _ (by kernel_rfl) rfl ?_
          go_wp2_with (refine wpList_store_row rfl 24 (.tmp 6) (.tmp 24) rfl d0.heap.size (bc D1) rfl rfl 24 _ (F83.cells (d0.heap.size, (bc (List.replicate 32 (0 : UInt8)))) (by first | exact List.mem_cons_self | exact List.mem_cons_of_mem _ List.mem_cons_self)).1 hi1 hz1 ho1 ?_)
          have F84 := F83.set (bc D1) (g := d0.heap.size) (Z := (bc (List.replicate 32 (0 : UInt8)))) (g' := y57.heap.size) (Z' := (bc (List.replicate 32 (0 : UInt8)))) (by first | exact List.mem_cons_self | exact List.mem_cons_of_mem _ List.mem_cons_self) (by first | exact List.mem_cons_self | exact List.mem_cons_of_mem _ List.mem_cons_self) ne79
          refine ⟨F84.bel, ?_⟩
          change wpAnyH _ _ _ _ _ _ _ _ (v82.setRow d0.heap.size (bc D1))
          obtain ⟨u86, hu86⟩ : ∃ Y, v82.setRow d0.heap.size (bc D1) = Y := ⟨_, rfl⟩
          rw [hu86] at F84
          rw [hu86]
          clear hu86
          refine wpAnyH_one 15 _ (by kernel_rfl) rfl ?_
          go_wp2_with (refine wpList_store_row rfl 24 (.tmp 7) (.tmp 30) rfl y57.heap.size (bc D2) rfl rfl 24 _ (F84.cells (y57.heap.size, (bc (List.replicate 32 (0 : UInt8)))) (by first | exact List.mem_cons_self | exact List.mem_cons_of_mem _ List.mem_cons_self)).1 hi2 hz2 ho2 ?_)
          have F85 := F84.set (bc D2) (g := y57.heap.size) (Z := (bc (List.replicate 32 (0 : UInt8)))) (g' := d0.heap.size) (Z' := bc D1) (by first | exact List.mem_cons_self | exact List.mem_cons_of_mem _ List.mem_cons_self) (by first | exact List.mem_cons_self | exact List.mem_cons_of_mem _ List.mem_cons_self) ne79.symm
          refine ⟨F85.bel, wpAnyH_done (by kernel_rfl) ?_ _⟩
          go_wp2
          go_meet
          case rel => exact ⟨_, _, _, rfl, rfl, F85⟩
      · go_wp2
        have F88 := F0.alloc (bc (List.replicate 32 (0 : UInt8)))
        refine ⟨F88.bel, ?_⟩
        change wpAnyH _ _ _ _ _ _ _ _ (d0.alloc (.cells (bc (List.replicate 32 (0 : UInt8))) 24))
        obtain ⟨y87, hy87⟩ : ∃ Y, d0.alloc (.cells (bc (List.replicate 32 (0 : UInt8))) 24) = Y := ⟨_, rfl⟩
        rw [hy87] at F88
        rw [hy87]
        clear hy87
        refine wpAnyH_two 5 12 _ _ (by kernel_rfl) rfl rfl ?_ ?_
        · go_wp2_with fail
          refine (unhide CO1 _ _ _ _ (by simp) F88.log F88.bel).mono ?_
          rintro e v89 ⟨rfl, ⟨mv89, Lv89, Xv89⟩, Bv89⟩
          have F90 := F88.call Lv89 Xv89 Bv89
          clear Lv89 Xv89 Bv89
          go_wp2
          refine ⟨F90.bel, ?_⟩
          refine wpAnyH_two 11 12 _ _ (by kernel_rfl) rfl rfl ?_ ?_
          · go_wp2_with fail
            refine (unhide CO2 _ _ _ _ (by simp) F90.log F90.bel).mono ?_
            rintro e v91 ⟨rfl, ⟨mv91, Lv91, Xv91⟩, Bv91⟩
            have F92 := F90.call Lv91 Xv91 Bv91
            clear Lv91 Xv91 Bv91
            go_wp2
            refine ⟨F92.bel, ?_⟩
            refine wpAnyH_one 12 _ (by kernel_rfl) rfl ?_
            go_wp2
            have F94 := F92.alloc (bc (List.replicate 32 (0 : UInt8)))
            have ne95 : d0.heap.size ≠ v91.heap.size := F92.fresh _ List.mem_cons_self
            refine ⟨F94.bel, ?_⟩
            change wpAnyH _ _ _ _ _ _ _ _ (v91.alloc (.cells (bc (List.replicate 32 (0 : UInt8))) 24))
            obtain ⟨y93, hy93⟩ : ∃ Y, v91.alloc (.cells (bc (List.replicate 32 (0 : UInt8))) 24) = Y := ⟨_, rfl⟩
            rw [hy93] at F94
            rw [hy93]
            clear hy93
            refine wpAnyH_one 14 _ (by kernel_rfl) rfl ?_
            go_wp2_with (refine wpList_store_row rfl 24 (.tmp 6) (.tmp 24) rfl v91.heap.size (bc D1) rfl rfl 24 _ (F94.cells (v91.heap.size, (bc (List.replicate 32 (0 : UInt8)))) (by first | exact List.mem_cons_self | exact List.mem_cons_of_mem _ List.mem_cons_self)).1 hi1 hz1 ho1 ?_)
            have F96 := F94.set (bc D1) (g := v91.heap.size) (Z := (bc (List.replicate 32 (0 : UInt8)))) (g' := d0.heap.size) (Z' := (bc (List.replicate 32 (0 : UInt8)))) (by first | exact List.mem_cons_self | exact List.mem_cons_of_mem _ List.mem_cons_self) (by first | exact List.mem_cons_self | exact List.mem_cons_of_mem _ List.mem_cons_self) ne95.symm
            refine ⟨F96.bel, ?_⟩
            change wpAnyH _ _ _ _ _ _ _ _ (y93.setRow v91.heap.size (bc D1))
            obtain ⟨u98, hu98⟩ : ∃ Y, y93.setRow v91.heap.size (bc D1) = Y := ⟨_, rfl⟩
            rw [hu98] at F96
            rw [hu98]
            clear hu98
            refine wpAnyH_one 15 _ (by kernel_rfl) rfl ?_
            go_wp2_with (refine wpList_store_row rfl 24 (.tmp 7) (.tmp 30) rfl d0.heap.size (bc D2) rfl rfl 24 _ (F96.cells (d0.heap.size, (bc (List.replicate 32 (0 : UInt8)))) (by first | exact List.mem_cons_self | exact List.mem_cons_of_mem _ List.mem_cons_self)).1 hi2 hz2 ho2 ?_)
            have F97 := F96.set (bc D2) (g := d0.heap.size) (Z := (bc (List.replicate 32 (0 : UInt8)))) (g' := v91.heap.size) (Z' := bc D1) (by first | exact List.mem_cons_self | exact List.mem_cons_of_mem _ List.mem_cons_self) (by first | exact List.mem_cons_self | exact List.mem_cons_of_mem _ List.mem_cons_self) ne95
            refine ⟨F97.bel, wpAnyH_done (by kernel_rfl) ?_ _⟩
            go_wp2
            go_meet
            case rel => exact ⟨_, _, _, rfl, rfl, F97⟩
          · go_wp2
            have F100 := F90.alloc (bc (List.replicate 32 (0 : UInt8)))
            have ne101 : d0.heap.size ≠ v89.heap.size := F90.fresh _ List.mem_cons_self
            refine ⟨F100.bel, ?_⟩
            change wpAnyH _ _ _ _ _ _ _ _ (v89.alloc (.cells (bc (List.replicate 32 (0 : UInt8))) 24))
            obtain ⟨y99, hy99⟩ : ∃ Y, v89.alloc (.cells (bc (List.replicate 32 (0 : UInt8))) 24) = Y := ⟨_, rfl⟩
            rw [hy99] at F100
            rw [hy99]
            clear hy99
            refine wpAnyH_one 11 _ (by kernel_rfl) rfl ?_
            go_wp2_with fail
            refine (unhide CO2 _ _ _ _ (by simp) F100.log F100.bel).mono ?_
            rintro e v102 ⟨rfl, ⟨mv102, Lv102, Xv102⟩, Bv102⟩
            have F103 := F100.call Lv102 Xv102 Bv102
            clear Lv102 Xv102 Bv102
            go_wp2
            refine ⟨F103.bel, ?_⟩
            refine wpAnyH_one 14 _ (by kernel_rfl) rfl ?_
            go_wp2_with (refine wpList_store_row rfl 24 (.tmp 6) (.tmp 24) rfl v89.heap.size (bc D1) rfl rfl 24 _ (F103.cells (v89.heap.size, (bc (List.replicate 32 (0 : UInt8)))) (by first | exact List.mem_cons_self | exact List.mem_cons_of_mem _ List.mem_cons_self)).1 hi1 hz1 ho1 ?_)
            have F104 := F103.set (bc D1) (g := v89.heap.size) (Z := (bc (List.replicate 32 (0 : UInt8)))) (g' := d0.heap.size) (Z' := (bc (List.replicate 32 (0 : UInt8)))) (by first | exact List.mem_cons_self | exact List.mem_cons_of_mem _ List.mem_cons_self) (by first | exact List.mem_cons_self | exact List.mem_cons_of_mem _ List.mem_cons_self) ne101.symm
            refine ⟨F104.bel, ?_⟩
            change wpAnyH _ _ _ _ _ _ _ _ (v102.setRow v89.heap.size (bc D1))
            obtain ⟨u106, hu106⟩ : ∃ Y, v102.setRow v89.heap.size (bc D1) = Y := ⟨_, rfl⟩
            rw [hu106] at F104
            rw [hu106]
            clear hu106
            refine wpAnyH_one 15 _ (by kernel_rfl) rfl ?_
            go_wp2_with (refine wpList_store_row rfl 24 (.tmp 7) (.tmp 30) rfl d0.heap.size (bc D2) rfl rfl 24 _ (F104.cells (d0.heap.size, (bc (List.replicate 32 (0 : UInt8)))) (by first | exact List.mem_cons_self | exact List.mem_cons_of_mem _ List.mem_cons_self)).1 hi2 hz2 ho2 ?_)
            have F105 := F104.set (bc D2) (g := d0.heap.size) (Z := (bc (List.replicate 32 (0 : UInt8)))) (g' := v89.heap.size) (Z' := bc D1) (by first | exact List.mem_cons_self | exact List.mem_cons_of_mem _ List.mem_cons_self) (by first | exact List.mem_cons_self | exact List.mem_cons_of_mem _ List.mem_cons_self) ne101
            refine ⟨F105.bel, wpAnyH_done (by kernel_rfl) ?_ _⟩
            go_wp2
            go_meet
            case rel => exact ⟨_, _, _, rfl, rfl, F105⟩
        · go_wp2
          have F108 := F88.alloc (bc (List.replicate 32 (0 : UInt8)))
          have ne109 : d0.heap.size ≠ y87.heap.size := F88.fresh _ List.mem_cons_self
          refine ⟨F108.bel, ?_⟩
          change wpAnyH _ _ _ _ _ _ _ _ (y87.alloc (.cells (bc (List.replicate 32 (0 : UInt8))) 24))
          obtain ⟨y107, hy107⟩ : ∃ Y, y87.alloc (.cells (bc (List.replicate 32 (0 : UInt8))) 24) = Y := ⟨_, rfl⟩
          rw [hy107] at F108
          rw [hy107]
          clear hy107
          refine wpAnyH_one 5 _ (by kernel_rfl) rfl ?_
          go_wp2_with fail
          refine (unhide CO1 _ _ _ _ (by simp) F108.log F108.bel).mono ?_
          rintro e v110 ⟨rfl, ⟨mv110, Lv110, Xv110⟩, Bv110⟩
          have F111 := F108.call Lv110 Xv110 Bv110
          clear Lv110 Xv110 Bv110
          go_wp2
          refine ⟨F111.bel, ?_⟩
          refine wpAnyH_one 11 _ (by kernel_rfl) rfl ?_
          go_wp2_with fail
          refine (unhide CO2 _ _ _ _ (by simp) F111.log F111.bel).mono ?_
          rintro e v112 ⟨rfl, ⟨mv112, Lv112, Xv112⟩, Bv112⟩
          have F113 := F111.call Lv112 Xv112 Bv112
          clear Lv112 Xv112 Bv112
          go_wp2
          refine ⟨F113.bel, ?_⟩
          refine wpAnyH_one 14 _ (by kernel_rfl) rfl ?_
          go_wp2_with (refine wpList_store_row rfl 24 (.tmp 6) (.tmp 24) rfl y87.heap.size (bc D1) rfl rfl 24 _ (F113.cells (y87.heap.size, (bc (List.replicate 32 (0 : UInt8)))) (by first | exact List.mem_cons_self | exact List.mem_cons_of_mem _ List.mem_cons_self)).1 hi1 hz1 ho1 ?_)
          have F114 := F113.set (bc D1) (g := y87.heap.size) (Z := (bc (List.replicate 32 (0 : UInt8)))) (g' := d0.heap.size) (Z' := (bc (List.replicate 32 (0 : UInt8)))) (by first | exact List.mem_cons_self | exact List.mem_cons_of_mem _ List.mem_cons_self) (by first | exact List.mem_cons_self | exact List.mem_cons_of_mem _ List.mem_cons_self) ne109.symm
          refine ⟨F114.bel, ?_⟩
          change wpAnyH _ _ _ _ _ _ _ _ (v112.setRow y87.heap.size (bc D1))
          obtain ⟨u116, hu116⟩ : ∃ Y, v112.setRow y87.heap.size (bc D1) = Y := ⟨_, rfl⟩
          rw [hu116] at F114
          rw [hu116]
          clear hu116
          refine wpAnyH_one 15 _ (by kernel_rfl) rfl ?_
          go_wp2_with (refine wpList_store_row rfl 24 (.tmp 7) (.tmp 30) rfl d0.heap.size (bc D2) rfl rfl 24 _ (F114.cells (d0.heap.size, (bc (List.replicate 32 (0 : UInt8)))) (by first | exact List.mem_cons_self | exact List.mem_cons_of_mem _ List.mem_cons_self)).1 hi2 hz2 ho2 ?_)
          have F115 := F114.set (bc D2) (g := d0.heap.size) (Z := (bc (List.replicate 32 (0 : UInt8)))) (g' := y87.heap.size) (Z' := bc D1) (by first | exact List.mem_cons_self | exact List.mem_cons_of_mem _ List.mem_cons_self) (by first | exact List.mem_cons_self | exact List.mem_cons_of_mem _ List.mem_cons_self) ne109
          refine ⟨F115.bel, wpAnyH_done (by kernel_rfl) ?_ _⟩
          go_wp2
          go_meet
          case rel => exact ⟨_, _, _, rfl, rfl, F115⟩
    case rest =>
      obtain ⟨g, h, m, rfl, rfl, FF⟩ := hcut
      have c0 := unhide r0 wc FF.bel
      have c1 := unhide r1 wc FF.bel
      have c2 := unhide r2 wc FF.bel
      have c3 := unhide r3 wc FF.bel
      have HFF := hide FF
      have hdom : Hid (dx < 256 ∧ dy < 256) := hide ⟨by rw [← unhide Hdx]; exact (unhide HGX).dom, by rw [← unhide Hdy]; exact (unhide HGY).dom⟩
      obtain ⟨s0, hs0⟩ : ∃ s, (decide (dx = dy) && decide (nx = ny)) = s := ⟨_, rfl⟩
      have Hs0 := hide hs0
      clear hs0 HF00 FF
      go_upto_region 7 with fail
      go_cut [8] (fun s wx => s = .bool s0 ∧ wx = wc)
      case first =>
        by_cases e1 : dx = dy
        · have d1 : decide ((dx : Int) = (dy : Int)) = true := by simp; omega
          by_cases e2 : nx = ny
          · have d2 : decide ((nx : Int) = (ny : Int)) = true := by simp; omega
            go_wp2
            go_meet
            case rel => exact ⟨by rw [← unhide Hs0, decide_eq_true e1, decide_eq_true e2]; rfl, rfl⟩
          · have d2 : decide ((nx : Int) = (ny : Int)) = false := by simp; omega
            go_wp2
            go_meet
            case rel => exact ⟨by rw [← unhide Hs0, decide_eq_true e1, decide_eq_false e2]; exact congrArg Value.bool (by simp; omega), rfl⟩
        · have d1 : decide ((dx : Int) = (dy : Int)) = false := by simp; omega
          go_wp2
          go_meet
          case rel => exact ⟨by rw [← unhide Hs0, decide_eq_false e1]; rfl, rfl⟩
      case rest =>
        obtain ⟨rfl, rfl⟩ := hcut
        go_wp2
        clear c0 c1 c2 c3
        go_loopw [8, 9] (fun s i wr => ∃ (b : Bool) (k : Nat), s = .bool b ∧ i = .int .i64 (k : Int) ∧ k ≤ nx ∧ Below wc.heap.size wc wr ∧ Hid (b = true → dx = dy ∧ nx = ny ∧ ∀ j, j < k → x.parts.getD j [] = y.parts.getD j []) ∧ Hid (b = false → ¬(dx = dy ∧ x.parts = y.parts))) (fun _ i _ => nx - (intOf i).toNat)
        case atStart =>
          refine ⟨s0, 0, rfl, rfl, by omega, Below.refl _ _, hide fun hs => ?_, hide fun hs => ?_⟩
          · have := unhide Hs0
            rw [hs, Bool.and_eq_true] at this
            exact ⟨of_decide_eq_true this.1, of_decide_eq_true this.2, fun j hj => absurd hj (Nat.not_lt_zero _)⟩
          · have := unhide Hs0
            rw [hs, Bool.and_eq_false_iff] at this
            rintro ⟨e1, e2⟩
            rcases this with h' | h'
            · exact of_decide_eq_false h' e1
            · exact of_decide_eq_false h' (by rw [← unhide Hnx, ← unhide Hny, e2])
        case round =>
          obtain ⟨b, k, rfl, rfl, hk, hb, hTT, hFF⟩ := hrel
          have bW : Below w2.heap.size w2 wr := (unhide HFF).bel.trans (hb.mono (unhide HFF).bel.size)
          have c1 := unhide r1 wr bW
          have c3 := unhide r3 wr bW
          cases b with
          | false =>
            have hI : pInput dx x.parts ≠ pInput dy y.parts := fun hi => by
              have := pInput_inj (unhide hdom).1 (unhide hdom).2 (fun p hp => Nat.lt_of_le_of_lt ((unhide HAX).2 p hp) (by decide)) (fun p hp => Nat.lt_of_le_of_lt ((unhide HAY).2 p hp) (by decide)) hi
              exact unhide hFF rfl this
            clear hTT hFF
            by_cases hDD : D1 = D2
            · have kk := two_clash (pInput dx x.parts) (pInput dy y.parts) hI (by show pOf dx x.parts = pOf dy y.parts; rw [← unhide Hdx, ← unhide Hdy, unhide HD1, unhide HD2]; exact hDD)
              have K3 : Hid (∀ W, LogAt W w2.heap.size (some m) [pInput dx x.parts, pInput dy y.parts] → Calls Tryd.prog 14 #[.pointer (some ⟨w2.heap.size, 0, none⟩)] W fun e w' => e = .returned (.int .i64 2) ∧ w' = W) := hide fun W hL => by
                have := count_calls w2.heap.size m _ W hL
                rw [kk.1] at this
                exact this
              have K4 : Hid (∀ W, LogAt W w2.heap.size (some m) [pInput dx x.parts, pInput dy y.parts] → Calls Tryd.prog 15 #[.pointer (some ⟨w2.heap.size, 0, none⟩)] W fun e w' => e = .returned (.bool true) ∧ Below W.heap.size W w') := hide fun W hL => by
                have := clash_calls w2.heap.size m _ W hL
                rw [kk.1, kk.2] at this
                exact this
              have heq := hide fun W => dig_eq D1 D2 (unhide H1) (unhide H2) W
              rw [decide_eq_true hDD] at heq
              have T5 := (unhide HT2).below bW (Nat.le_refl _)
              have qg := Below.at hb (Array.getElem?_eq_some_iff.1 ((unhide HFF).cells (g, bc D1) (by first | exact List.mem_cons_self | exact List.mem_cons_of_mem _ List.mem_cons_self)).1).1 ((unhide HFF).cells (g, bc D1) (by first | exact List.mem_cons_self | exact List.mem_cons_of_mem _ List.mem_cons_self)).1
              have qh := Below.at hb (Array.getElem?_eq_some_iff.1 ((unhide HFF).cells (h, bc D2) (by first | exact List.mem_cons_self | exact List.mem_cons_of_mem _ List.mem_cons_self)).1).1 ((unhide HFF).cells (h, bc D2) (by first | exact List.mem_cons_self | exact List.mem_cons_of_mem _ List.mem_cons_self)).1
              have L5 := hide ((unhide HFF).log.below' hb)
              clear kk
              go_wp2_with fail
              refine (dawake_calls _ T5).mono ?_
              rintro e w5 ⟨rfl, b5⟩
              have qg5 := Below.at b5 (Array.getElem?_eq_some_iff.1 qg).1 qg
              have qh5 := Below.at b5 (Array.getElem?_eq_some_iff.1 qh).1 qh
              have L6 := hide ((unhide L5).below' b5)
              have bW5 := bW.trans (b5.mono bW.size)
              clear T5 qg qh b5
              go_wp2_with fail
              refine (unhide K3 _ (unhide L6)).mono ?_
              rintro e w6 ⟨rfl, h6⟩
              rw [h6]
              clear h6
              go_wp2_with (first
                | (refine wpList_load_row_gd rfl 24 (.tmp 6) rfl g rfl 24 _ (0, 0) _ qg5 Tryd.underlying24 rfl hi1 ?_)
                | (refine wpList_load_row_gd rfl 24 (.tmp 7) rfl h rfl 24 _ (0, 0) _ qh5 Tryd.underlying24 rfl hi2 ?_)
                | (refine wpList_eql_gl rfl 24 24 (.tmp 78) (.tmp 79) rfl _ _ rfl rfl (by kernel_rfl) true (unhide heq) ?_))
              refine (unhide K4 _ (unhide L6)).mono ?_
              rintro e w7 ⟨rfl, b7⟩
              have qg7 := Below.at b7 (Array.getElem?_eq_some_iff.1 qg5).1 qg5
              have qh7 := Below.at b7 (Array.getElem?_eq_some_iff.1 qh5).1 qh5
              have bW7 := bW5.trans (b7.mono bW5.size)
              clear qg5 qh5 b7
              go_wp2_with (first
                | (refine wpList_load_row_gd rfl 24 (.tmp 6) rfl g rfl 24 _ (0, 0) _ qg7 Tryd.underlying24 rfl hi1 ?_)
                | (refine wpList_load_row_gd rfl 24 (.tmp 7) rfl h rfl 24 _ (0, 0) _ qh7 Tryd.underlying24 rfl hi2 ?_)
                | (refine wpList_eql_gl rfl 24 24 (.tmp 89) (.tmp 90) rfl _ _ rfl rfl (by kernel_rfl) true (unhide heq) ?_))
              go_ret
              exact ⟨rfl, (unhide HB2).trans (bW7.mono (unhide HB2).size)⟩
            · have kk := two_diff (pInput dx x.parts) (pInput dy y.parts) hI (by show pOf dx x.parts ≠ pOf dy y.parts; rw [← unhide Hdx, ← unhide Hdy, unhide HD1, unhide HD2]; exact hDD)
              have K3 : Hid (∀ W, LogAt W w2.heap.size (some m) [pInput dx x.parts, pInput dy y.parts] → Calls Tryd.prog 14 #[.pointer (some ⟨w2.heap.size, 0, none⟩)] W fun e w' => e = .returned (.int .i64 2) ∧ w' = W) := hide fun W hL => by
                have := count_calls w2.heap.size m _ W hL
                rw [kk.1] at this
                exact this
              have K4 : Hid (∀ W, LogAt W w2.heap.size (some m) [pInput dx x.parts, pInput dy y.parts] → Calls Tryd.prog 15 #[.pointer (some ⟨w2.heap.size, 0, none⟩)] W fun e w' => e = .returned (.bool false) ∧ Below W.heap.size W w') := hide fun W hL => by
                have := clash_calls w2.heap.size m _ W hL
                rw [kk.1, kk.2] at this
                exact this
              have heq := hide fun W => dig_eq D1 D2 (unhide H1) (unhide H2) W
              rw [decide_eq_false hDD] at heq
              have T5 := (unhide HT2).below bW (Nat.le_refl _)
              have qg := Below.at hb (Array.getElem?_eq_some_iff.1 ((unhide HFF).cells (g, bc D1) (by first | exact List.mem_cons_self | exact List.mem_cons_of_mem _ List.mem_cons_self)).1).1 ((unhide HFF).cells (g, bc D1) (by first | exact List.mem_cons_self | exact List.mem_cons_of_mem _ List.mem_cons_self)).1
              have qh := Below.at hb (Array.getElem?_eq_some_iff.1 ((unhide HFF).cells (h, bc D2) (by first | exact List.mem_cons_self | exact List.mem_cons_of_mem _ List.mem_cons_self)).1).1 ((unhide HFF).cells (h, bc D2) (by first | exact List.mem_cons_self | exact List.mem_cons_of_mem _ List.mem_cons_self)).1
              have L5 := hide ((unhide HFF).log.below' hb)
              clear kk
              go_wp2_with fail
              refine (dawake_calls _ T5).mono ?_
              rintro e w5 ⟨rfl, b5⟩
              have qg5 := Below.at b5 (Array.getElem?_eq_some_iff.1 qg).1 qg
              have qh5 := Below.at b5 (Array.getElem?_eq_some_iff.1 qh).1 qh
              have L6 := hide ((unhide L5).below' b5)
              have bW5 := bW.trans (b5.mono bW.size)
              clear T5 qg qh b5
              go_wp2_with fail
              refine (unhide K3 _ (unhide L6)).mono ?_
              rintro e w6 ⟨rfl, h6⟩
              rw [h6]
              clear h6
              go_wp2_with (first
                | (refine wpList_load_row_gd rfl 24 (.tmp 6) rfl g rfl 24 _ (0, 0) _ qg5 Tryd.underlying24 rfl hi1 ?_)
                | (refine wpList_load_row_gd rfl 24 (.tmp 7) rfl h rfl 24 _ (0, 0) _ qh5 Tryd.underlying24 rfl hi2 ?_)
                | (refine wpList_eql_gl rfl 24 24 (.tmp 78) (.tmp 79) rfl _ _ rfl rfl (by kernel_rfl) false (unhide heq) ?_))
              refine (unhide K4 _ (unhide L6)).mono ?_
              rintro e w7 ⟨rfl, b7⟩
              have qg7 := Below.at b7 (Array.getElem?_eq_some_iff.1 qg5).1 qg5
              have qh7 := Below.at b7 (Array.getElem?_eq_some_iff.1 qh5).1 qh5
              have bW7 := bW5.trans (b7.mono bW5.size)
              clear qg5 qh5 b7
              go_wp2_with (first
                | (refine wpList_load_row_gd rfl 24 (.tmp 6) rfl g rfl 24 _ (0, 0) _ qg7 Tryd.underlying24 rfl hi1 ?_)
                | (refine wpList_load_row_gd rfl 24 (.tmp 7) rfl h rfl 24 _ (0, 0) _ qh7 Tryd.underlying24 rfl hi2 ?_)
                | (refine wpList_eql_gl rfl 24 24 (.tmp 89) (.tmp 90) rfl _ _ rfl rfl (by kernel_rfl) false (unhide heq) ?_))
              go_ret
              exact ⟨rfl, (unhide HB2).trans (bW7.mono (unhide HB2).size)⟩
          | true =>
            obtain ⟨e1, e2, heach⟩ := unhide hTT rfl
            by_cases hlt : k < nx
            · have d1 : decide ((k : Int) < (nx : Int)) = true := by simp; omega
              have bk : (0 : Int) ≤ k ∧ (k : Int) < (nx : Int) := by omega
              have bk2 : (0 : Int) ≤ k ∧ (k : Int) < (ny : Int) := by omega
              obtain ⟨bx, ox, hpx, hbx, hsx⟩ := str_at ((unhide HGX).strs.below bW (Nat.le_refl _)) (by rw [unhide Hnx]; omega)
              obtain ⟨by', oy, hpy, hby, hsy⟩ := str_at ((unhide HGY).strs.below bW (Nat.le_refl _)) (by rw [unhide Hny]; omega)
              have epx : px = some ⟨bx, ox, none⟩ := (unhide Hpx).symm.trans hpx
              have epy : py = some ⟨by', oy, none⟩ := (unhide Hpy).symm.trans hpy
              rw [epx] at c1
              rw [epy] at c3
              have hX := hsx k (by rw [unhide Hnx]; exact hlt)
              have hY := hsy k (by rw [unhide Hny]; omega)
              obtain ⟨s, hs⟩ : ∃ s, x.parts.getD k [] = s := ⟨_, rfl⟩
              obtain ⟨t, ht⟩ : ∃ t, y.parts.getD k [] = t := ⟨_, rfl⟩
              rw [hs] at hX
              rw [ht] at hY
              have lw : w.heap.size + 1 < wr.heap.size := by have := hb.size; have := bW.size; have := z2; omega
              have k1 : ∀ dd os, (Sort.grow (redrawn wr dd) os).cell? ⟨w.heap.size, 1, none⟩ = some (.slice (some ⟨bx, ox, none⟩) nx cx) := fun dd os => by rw [(below_regrown wr dd os).cell (p := ⟨w.heap.size, 1, none⟩) (by show w.heap.size < wr.heap.size; omega)]; exact c1
              have k3 : ∀ dd os, (Sort.grow (redrawn wr dd) os).cell? ⟨w.heap.size + 1, 1, none⟩ = some (.slice (some ⟨by', oy, none⟩) ny cy) := fun dd os => by rw [(below_regrown wr dd os).cell (p := ⟨w.heap.size + 1, 1, none⟩) lw]; exact c3
              have s1 : ∀ dd os, (Sort.grow (redrawn wr dd) os).cell? ⟨bx, ox + k, none⟩ = some (.string (str s)) := fun dd os => by rw [(below_regrown wr dd os).cell (p := ⟨bx, ox + k, none⟩) hbx]; exact hX
              have s2 : ∀ dd os, (Sort.grow (redrawn wr dd) os).cell? ⟨by', oy + k, none⟩ = some (.string (str t)) := fun dd os => by rw [(below_regrown wr dd os).cell (p := ⟨by', oy + k, none⟩) hby]; exact hY
              obtain ⟨ans, hans⟩ : ∃ ans, ((str s).toList == (str t).toList) = ans := ⟨_, rfl⟩
              have hnx : nx ≤ 20 := by rw [← unhide Hnx]; exact (unhide HAX).1
              have Hans := hide hans
              have Hs := hide hs
              have Ht := hide ht
              have Heach := hide heach
              have He1 := hide e1
              have He2 := hide e2
              clear hX hY hsx hsy hpx hpy epx epy hs ht hbx hby heach e1 e2 hTT hFF lw
              go_wp2_with fail
              clear c1 c3
              refine wp_region_below mixed (by kernel_rfl) ?_
              quiet_step (fail)
              quiet_step (fail)
              quiet_step (fail)
              quiet_step (fail)
              quiet_step (fail)
              quiet_step (fail)
              quiet_step (fail)
              quiet_step (fail)
              quiet_step (fail)
              quiet_step (fail)
              quiet_step (fail)
              quiet_step (fail)
              refine wpQuiet_nil ?_
              intro w3 hb3
              have b3 := hb.trans (hb3.mono hb.size)
              clear k1 k3 s1 s2 hb3
              go_wp2
              go_roundw
              case rel =>
                refine ⟨ans, k + 1, by first | rfl | rw [hans], by go_num, by omega, b3, hide fun ha => ⟨unhide He1, unhide He2, fun j hj => ?_⟩, hide fun ha => ?_⟩
                · rcases Nat.lt_succ_iff_lt_or_eq.1 hj with h' | rfl
                  · exact unhide Heach j h'
                  · rw [unhide Hs, unhide Ht]
                    have := unhide Hans
                    rw [ha] at this
                    have he := eq_of_beq this
                    rw [ByteArray.toList_eq, ByteArray.toList_eq, str_toList, str_toList] at he
                    exact he
                · rintro ⟨_, ep⟩
                  have := unhide Hans
                  rw [ha] at this
                  have hst : s = t := by rw [← unhide Hs, ← unhide Ht, ep]
                  rw [hst] at this
                  simp at this
              case measure => simp [intOf]; omega
            · have d1 : decide ((k : Int) < (nx : Int)) = false := by simp; omega
              have ep : x.parts = y.parts := by
                refine List.ext_getElem (by rw [unhide Hnx, unhide Hny, e2]) fun j hj hj' => ?_
                have := heach j (by rw [unhide Hnx] at hj; omega)
                rwa [List.getD_eq_getElem?_getD, List.getD_eq_getElem?_getD, List.getElem?_eq_getElem hj, List.getElem?_eq_getElem hj'] at this
              clear hTT hFF heach
              have hI : pInput dx x.parts = pInput dy y.parts := by rw [e1, ep]
              have hDD : D1 = D2 := by rw [← unhide HD1, ← unhide HD2, unhide Hdx, unhide Hdy, e1, ep]
              have kk := two_same (pInput dy y.parts)
              rw [← hI] at kk
              have kk : dcount ([pInput dx x.parts, pInput dy y.parts].map Lit.string) = 1 ∧ dcount ([pInput dx x.parts, pInput dy y.parts].map fun s => dKey (pSum [s])) = 1 := by rw [← hI]; exact kk
              have K3 : Hid (∀ W, LogAt W w2.heap.size (some m) [pInput dx x.parts, pInput dy y.parts] → Calls Tryd.prog 14 #[.pointer (some ⟨w2.heap.size, 0, none⟩)] W fun e w' => e = .returned (.int .i64 1) ∧ w' = W) := hide fun W hL => by
                have := count_calls w2.heap.size m _ W hL
                rw [kk.1] at this
                exact this
              have K4 : Hid (∀ W, LogAt W w2.heap.size (some m) [pInput dx x.parts, pInput dy y.parts] → Calls Tryd.prog 15 #[.pointer (some ⟨w2.heap.size, 0, none⟩)] W fun e w' => e = .returned (.bool false) ∧ Below W.heap.size W w') := hide fun W hL => by
                have := clash_calls w2.heap.size m _ W hL
                rw [kk.1, kk.2] at this
                exact this
              have heq := hide fun W => dig_eq D1 D2 (unhide H1) (unhide H2) W
              rw [decide_eq_true hDD] at heq
              have T5 := (unhide HT2).below bW (Nat.le_refl _)
              have qg := Below.at hb (Array.getElem?_eq_some_iff.1 ((unhide HFF).cells (g, bc D1) (by first | exact List.mem_cons_self | exact List.mem_cons_of_mem _ List.mem_cons_self)).1).1 ((unhide HFF).cells (g, bc D1) (by first | exact List.mem_cons_self | exact List.mem_cons_of_mem _ List.mem_cons_self)).1
              have qh := Below.at hb (Array.getElem?_eq_some_iff.1 ((unhide HFF).cells (h, bc D2) (by first | exact List.mem_cons_self | exact List.mem_cons_of_mem _ List.mem_cons_self)).1).1 ((unhide HFF).cells (h, bc D2) (by first | exact List.mem_cons_self | exact List.mem_cons_of_mem _ List.mem_cons_self)).1
              have L5 := hide ((unhide HFF).log.below' hb)
              clear kk
              go_wp2_with fail
              refine (dawake_calls _ T5).mono ?_
              rintro e w5 ⟨rfl, b5⟩
              have qg5 := Below.at b5 (Array.getElem?_eq_some_iff.1 qg).1 qg
              have qh5 := Below.at b5 (Array.getElem?_eq_some_iff.1 qh).1 qh
              have L6 := hide ((unhide L5).below' b5)
              have bW5 := bW.trans (b5.mono bW.size)
              clear T5 qg qh b5
              go_wp2_with fail
              refine (unhide K3 _ (unhide L6)).mono ?_
              rintro e w6 ⟨rfl, h6⟩
              rw [h6]
              clear h6
              go_wp2_with (first
                | (refine wpList_load_row_gd rfl 24 (.tmp 6) rfl g rfl 24 _ (0, 0) _ qg5 Tryd.underlying24 rfl hi1 ?_)
                | (refine wpList_load_row_gd rfl 24 (.tmp 7) rfl h rfl 24 _ (0, 0) _ qh5 Tryd.underlying24 rfl hi2 ?_)
                | (refine wpList_eql_gl rfl 24 24 (.tmp 78) (.tmp 79) rfl _ _ rfl rfl (by kernel_rfl) true (unhide heq) ?_))
              refine (unhide K4 _ (unhide L6)).mono ?_
              rintro e w7 ⟨rfl, b7⟩
              have qg7 := Below.at b7 (Array.getElem?_eq_some_iff.1 qg5).1 qg5
              have qh7 := Below.at b7 (Array.getElem?_eq_some_iff.1 qh5).1 qh5
              have bW7 := bW5.trans (b7.mono bW5.size)
              clear qg5 qh5 b7
              go_wp2_with (first
                | (refine wpList_load_row_gd rfl 24 (.tmp 6) rfl g rfl 24 _ (0, 0) _ qg7 Tryd.underlying24 rfl hi1 ?_)
                | (refine wpList_load_row_gd rfl 24 (.tmp 7) rfl h rfl 24 _ (0, 0) _ qh7 Tryd.underlying24 rfl hi2 ?_)
                | (refine wpList_eql_gl rfl 24 24 (.tmp 89) (.tmp 90) rfl _ _ rfl rfl (by kernel_rfl) true (unhide heq) ?_))
              go_ret
              exact ⟨rfl, (unhide HB2).trans (bW7.mono (unhide HB2).size)⟩
theorem digestInputs_walk (x y : AskD) (w : World) (hx : x.Good w) (hy : y.Good w) (tabs : Tabs w) :
    Calls Tryd.prog 5 #[.agg x.cells, .agg y.cells] w fun e w' => e = .returned (.bool true) ∧ Below w.heap.size w w' :=
  digestInputs_of x y _ _ (pOf_length _ _) (pOf_length _ _) rfl rfl w hx hy tabs
end Go.Proofs.YtccecnohgakllaaDoor
