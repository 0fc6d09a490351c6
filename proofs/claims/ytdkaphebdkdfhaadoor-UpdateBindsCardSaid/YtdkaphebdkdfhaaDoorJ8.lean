/-
  A ROW STORED INTO A BLOCK THAT WAS JUST MADE: the world behind it is a letter of which all is known. Over whatever program.
-/
/-
  WHAT A SIGNER's Sign RETURNS with one of its keys, where there is no log.
-/
/-
  WHAT A SIGNER's Sign RETURNS with one of its keys, where there is no log.
-/
/-
  == OF A DIGEST WITH ITSELF.
-/
/-
  WHAT keys' Verify RETURNS of a signer's own signature, and of an empty one, where there is no log.
-/
/-
  WHAT keys' Verify RETURNS of a signer's own signature and any digest, where there is no log.
-/
/-
  AN UPDATE AS A ROW; WHAT update's Right RETURNS, where there is no log.
-/
/-
  A WALK BESIDE A LOG: what the log says, and the rows that it leaves alone.
-/
/-
  A LOG, THE ROWS THAT IT LEAVES ALONE, AND SOME DIGESTS' BLOCKS, where a region draws its order over two calls that note and two allocs.
-/
import Derived.Test.YtdkaphebdkdfhaaDoorJ0
import Derived.Laws.Rows
import Derived.Test.YtdkaphebdkdfhaaDoorJ7
import Derived.Test.YtdkaphebdkdfhaaDoorJ3
import Derived.Deep.DeepCutAuto
import Derived.Test.YtdkaphebdkdfhaaDoorJ5
import Derived.Test.YtdkaphebdkdfhaaDoorJ4
namespace Go.Proofs.YtdkaphebdkdfhaaDoor
open Go.RowKit
set_option linter.unusedSimpArgs false
set_option linter.unusedVariables false

theorem wpList_store_newV {P : Program} {ops : Array Oper} {rest : List Oper} {op : Oper} {a : Act} {Q : Exit → Act → World → Prop} (hgd : op.guard = none) (ty : TypeId) (x y : Operand) (ho : op.op = .store ty x y)
    (W0 : World) (Z : Array Value) (t : TypeId) (D : Array Value) (hx : a.eval x = .pointer (some ⟨W0.heap.size, 0, none⟩)) (hy : a.eval y = .agg D)
    (hi : (P.info? ty).map (·.size) = some D.size) (hz : Z.size = D.size) (h1 : D.all (·.oneCell') = true)
    (h : ∀ w', w'.heap[W0.heap.size]? = some (.cells D t (0, 0)) → Below W0.heap.size W0 w' → w'.heap.size = W0.heap.size + 1 → wpList P ops Q rest (a.put op.dst undef) w') :
    wpList P ops Q (op :: rest) a (W0.alloc (.cells Z t)) := by
  refine wpList_store_row hgd ty x y ho W0.heap.size D hx hy t Z (al1 _ _) hi hz h1 ?_
  exact h _ (setRow_heap _ _ _ _ _ _ (al1 W0 (.cells Z t))) (below_setRow ((Below.refl _ _).alloc (Nat.le_refl _) _) (Nat.le_refl _) _) (by rw [setRow_size, World.size_alloc])
end Go.Proofs.YtdkaphebdkdfhaaDoor

namespace Go.Proofs.YtdkaphebdkdfhaaDoor
open Go Go.RowKit
set_option linter.unusedSimpArgs false
set_option linter.unusedVariables false

theorem results_cell_cell_tmp {fn : Func} {p q u : Tmp} {ty ty' : TypeId} (h : fn.results = #[.cell p ty, .cell q ty', .tmp u]) (tmps : Array Value) (P : Program) (w : World) :
    (results fn tmps).run P w =
      ((asAddr (tmps.getD p undef)).run P w).andThen fun a w₁ => ((loadVar ty a).run P w₁).andThen fun v w₂ => ((asAddr (tmps.getD q undef)).run P w₂).andThen fun b w₃ => ((loadVar ty' b).run P w₃).andThen fun v' w₄ => .ok (.tuple #[v, v', tmps.getD u undef]) w₄ := by
  simp only [results, h]
  simp [Sem.run_bind, Result.andThen]
/-- Two rows of memory and a slot as the three results. -/
theorem results_row_row_tmp {P : Program} {fn : Func} {p q u : Tmp} {ty ty' : TypeId} (h : fn.results = #[.cell p ty, .cell q ty', .tmp u]) (tmps : Array Value) (w : World) (g g' : Nat) (t t' : TypeId) (cs cs' : Array Value) (fr fr' : Nat × Nat) (d d' : TypeDesc)
    (hp : tmps.getD p undef = .pointer (some ⟨g, 0, none⟩)) (hq : tmps.getD q undef = .pointer (some ⟨g', 0, none⟩)) (hg : w.heap[g]? = some (.cells cs t fr)) (hg' : w.heap[g']? = some (.cells cs' t' fr'))
    (hu : P.underlying ty = some d) (hd : (match d with | .struct _ | .array _ _ => true | _ => false) = true) (hi : (P.info? ty).map (·.size) = some cs.size)
    (hu' : P.underlying ty' = some d') (hd' : (match d' with | .struct _ | .array _ _ => true | _ => false) = true) (hi' : (P.info? ty').map (·.size) = some cs'.size) :
    (results fn tmps).run P w = .ok (.tuple #[.agg cs, .agg cs', tmps.getD u undef]) w := by
  rw [results_cell_cell_tmp h, hp, hq]
  simp only [asAddr, Sem.run_pure, Result.andThen_ok, run_loadVar_row w g t ty cs fr d hg hu hd hi, run_loadVar_row w g' t' ty' cs' fr' d' hg' hu' hd' hi']
theorem built_sg3 (seed : List UInt8) (h : seed.length = 32) (n : Int) (p : Option Addr) (l c : Nat) : Tryd.prog.built 31 [(0, .agg (bc seed)), (1, .int .i64 n), (2, .slice p l c)] = some (sgc seed n (.slice p l c)) := by
  obtain ⟨a0, a1, a2, a3, a4, a5, a6, a7, a8, a9, a10, a11, a12, a13, a14, a15, a16, a17, a18, a19, a20, a21, a22, a23, a24, a25, a26, a27, a28, a29, a30, a31, rfl⟩ := list32 seed h
  kernel_rfl
end Go.Proofs.YtdkaphebdkdfhaaDoor

namespace Go.Proofs.YtdkaphebdkdfhaaDoor
open Go Go.RowKit
set_option linter.unusedSimpArgs false
set_option linter.unusedVariables false

theorem sgc_set (seed : List UInt8) (h : seed.length = 32) (n m : Int) (v : Value) : (sgc seed n v).setIfInBounds 32 (.int .i64 m) = sgc seed m v := by
  obtain ⟨a0, a1, a2, a3, a4, a5, a6, a7, a8, a9, a10, a11, a12, a13, a14, a15, a16, a17, a18, a19, a20, a21, a22, a23, a24, a25, a26, a27, a28, a29, a30, a31, rfl⟩ := list32 seed h
  rfl
set_option maxHeartbeats 4000000 in
set_option maxRecDepth 100000 in
theorem ksign_calls (seed : List UInt8) (h : seed.length = 32) (x : Nat) (hx : x < 16) (ds : List (List UInt8)) (hds : ds.length = 16) (b off c : Nat) (d : List UInt8) (hd : d.length = 32) (w : World) (hD : DL w (some ⟨b, off, none⟩) ds) (tabs : Tabs w) :
    Calls Tryd.prog 20 #[.agg (sgc seed (x : Int) (.slice (some ⟨b, off, none⟩) 16 c)), .pointer none, .agg (bc d)] w fun e w' => (∃ gc cap cs, e = .returned (.tuple #[.agg (sgc seed ((x : Int) + 1) (.slice (some ⟨gc, 0, none⟩) 16 cap)), .agg cs, .int .i64 0]) ∧ w.heap.size ≤ gc ∧ DL w' (some ⟨gc, 0, none⟩) ds ∧ SigAt w' w.heap.size seed d ds x cs) ∧ Below w.heap.size w w' := by
  obtain ⟨C, hC⟩ : ∃ C, sgc seed (x : Int) (.slice (some ⟨b, off, none⟩) 16 c) = C := ⟨_, rfl⟩
  have hiC := sgc_info seed h (x : Int) (.slice (some ⟨b, off, none⟩) 16 c)
  have hid := digInfo d hd
  rw [hC] at hiC
  have cn : C[32]? = some (.int .i64 (x : Int)) := by rw [← hC]; exact sgc_next seed h _ _
  have cl : C[33]? = some (.slice (some ⟨b, off, none⟩) 16 c) := by rw [← hC]; exact sgc_leaves seed h _ _
  have csd : Hid (∀ (W : World) (g : Nat) (t : TypeId), W.heap[g]? = some (.cells C t (0, 0)) → W.rangeAt g 0 (Lib.byteCells seed)) := hide (by rw [← hC]; exact fun W g t hW => sgc_seed seed h _ _ W g t hW)
  have hcl := hide fun W hW => clone_digs ds (by omega) b off c W hW
  rw [hds] at hcl
  have hbs := hide fun p l cc => built_sg3 seed h (x : Int) p l cc
  have hag := hide fun W hW t => again_calls seed h (x : Int) ds hds (some ⟨b, off, none⟩) c x hx d hd W hW t
  rw [hC] at hag
  have hk := hide fun W => isKey_calls (x : Int) W
  have hkk : (if (0 : Int) ≤ (x : Int) then decide ((x : Int) < 16) else false) = true := by rw [if_pos (by omega)]; simp; omega
  rw [hkk] at hk
  rw [hC]
  have A3 := hide (al3 w (.cells C 31) (.cells (bc d) 23) (.cells sg0 31))
  have HD := hide hD
  have HT := hide tabs
  have Hs := hide h
  have Hx := hide hx
  have Hlen := hide hds
  clear hD tabs hkk hC h hd hds
  obtain ⟨X, hX⟩ : ∃ X, (((w.alloc (.cells C 31)).alloc (.cells (bc d) 23)).alloc (.cells sg0 31)).alloc (.cells sigZ 26) = X := ⟨_, rfl⟩
  have HX := hide hX
  have x3 : Hid (X.heap[w.heap.size + 1 + 1 + 1]? = some (.cells sigZ 26 (0, 0))) := by
    have := al1 (((w.alloc (.cells C 31)).alloc (.cells (bc d) 23)).alloc (.cells sg0 31)) (.cells sigZ 26)
    rw [hX] at this
    exact hide (by simpa using this)
  have xs : X.heap.size = w.heap.size + 1 + 1 + 1 + 1 := by rw [← hX]; simp
  have x0 : X.heap[w.heap.size]? = some (.cells C 31 (0, 0)) := by rw [← hX, Below.heap_alloc _ _ _ (by simp only [World.size_alloc]; omega)]; exact (unhide A3).1
  have x1 : X.heap[w.heap.size + 1]? = some (.cells (bc d) 23 (0, 0)) := by rw [← hX, Below.heap_alloc _ _ _ (by simp only [World.size_alloc]; omega)]; exact (unhide A3).2.1
  have x2 : X.heap[w.heap.size + 1 + 1]? = some (.cells sg0 31 (0, 0)) := by rw [← hX, Below.heap_alloc _ _ _ (by simp only [World.size_alloc]; omega)]; exact (unhide A3).2.2
  have xb : Below w.heap.size w X := by rw [← hX]; exact (bel3 w _ _ _).alloc (by simp; omega) _
  have Xs := hide xs
  have X0 := hide x0
  have X1 := hide x1
  have X2 := hide x2
  have XB := hide xb
  clear xs x0 x1 x2 xb A3 hX
  go_enter Tryd.func20, Tryd.ntmps20
  go_upto_region 1 with fail
  change Code.wp _ _ _ _ ((((w.alloc (.cells C 31)).alloc (.cells (bc d) 23)).alloc (.cells sg0 31)).alloc (.cells sigZ 26))
  rw [unhide HX]
  go_cut [9] (fun p wc => ∃ g gc cap : Nat, p = .pointer (some ⟨g, 0, none⟩) ∧ wc.heap[g]? = some (.cells (sgc seed (x : Int) (.slice (some ⟨gc, 0, none⟩) 16 cap)) 31 (0, 0)) ∧ DL wc (some ⟨gc, 0, none⟩) ds ∧ Below X.heap.size X wc ∧ X.heap.size ≤ g ∧ X.heap.size ≤ gc ∧ g ≠ gc)
  case first =>
    have hS0 : Below X.heap.size X { X with drawn := X.drawn + 1 } := ⟨rfl, rfl, rfl, Nat.le_refl _, fun _ _ => rfl⟩
    have hxs := unhide Xs
    have r0 : Hid (∀ W : World, Below X.heap.size X W → W.heap[w.heap.size]? = some (.cells C 31 (0, 0))) := hide fun W hW => Below.at hW (by omega) (unhide X0)
    have r1 : Hid (∀ W : World, Below X.heap.size X W → W.rangeAt w.heap.size 0 (Lib.byteCells seed)) := hide fun W hW => unhide csd W _ _ (unhide r0 W hW)
    have r2 : Hid (∀ W : World, Below X.heap.size X W → W.cell? ⟨w.heap.size, 32, none⟩ = some (.int .i64 (x : Int))) := hide fun W hW => by rw [cell_of_row _ _ _ _ _ _ (unhide r0 W hW)]; exact cn
    have r3 : Hid (∀ W : World, Below X.heap.size X W → W.cell? ⟨w.heap.size, 33, none⟩ = some (.slice (some ⟨b, off, none⟩) 16 c)) := hide fun W hW => by rw [cell_of_row _ _ _ _ _ _ (unhide r0 W hW)]; exact cl
    clear hxs
    refine wp_region_held (S := fun W => Below X.heap.size X W) mixed ?_
    refine wpAnyH_take (i := 0) rfl (by kernel_rfl) (by kernel_rfl) (by kernel_rfl) (fun _ _ _ h => h) (.inl ⟨rfl, fun _ _ => rfl⟩) hS0 ?_
    refine wpAnyH_take (i := 1) rfl (by kernel_rfl) (by kernel_rfl) (by kernel_rfl) (fun _ _ _ h => h) (yields_mid rfl 23 (.tmp 12) rfl w.heap.size 0 rfl (Lib.byteCells seed) _ (unhide r1) Tryd.underlying23 rfl (by rw [Lib.byteCells_length, unhide Hs]; kernel_rfl)) hS0 ?_
    refine wpAnyH_take (i := 2) rfl (by kernel_rfl) (by kernel_rfl) (by kernel_rfl) (fun _ _ _ h => h) (.inl ⟨rfl, fun _ _ => rfl⟩) hS0 ?_
    refine wpAnyH_take (i := 3) (v := .int .i64 (x : Int)) rfl (by kernel_rfl) (by kernel_rfl) (by kernel_rfl) (fun _ _ _ h => h) (.inl ⟨rfl, fun W hW => by have c2 := unhide r2 W hW; go_simp⟩) hS0 ?_
    refine wpAnyH_take (i := 4) rfl (by kernel_rfl) (by kernel_rfl) (by kernel_rfl) (fun _ _ _ h => h) (.inl ⟨rfl, fun _ _ => rfl⟩) hS0 ?_
    refine wpAnyH_take (i := 5) (v := .slice (some ⟨b, off, none⟩) 16 c) rfl (by kernel_rfl) (by kernel_rfl) (by kernel_rfl) (fun _ _ _ h => h) (.inl ⟨rfl, fun W hW => by have c3 := unhide r3 W hW; go_simp⟩) hS0 ?_
    refine wpAnyH_two 6 8 _ _ (by kernel_rfl) rfl rfl ?_ ?_
    · have hDX := ((unhide HD).below (unhide XB) (Nat.le_refl _)).below hS0 (Nat.le_refl _)
      have HS0 := hide hS0
      clear hS0 r0 r1 r2 r3
      go_wp2_with fail
      refine (unhide hcl _ hDX).mono ?_
      rintro e w1 ⟨⟨gc, cap, rfl, hg, hDg⟩, b1⟩
      have hS1 : Below X.heap.size X w1 := (unhide HS0).trans (b1.mono (Nat.le_refl _))
      go_wp2
      refine ⟨hS1, ?_⟩
      have hb3 := unhide hbs (some ⟨gc, 0, none⟩) 16 cap
      refine wpAnyH_take (i := 7) rfl (by kernel_rfl) (by kernel_rfl) (by kernel_rfl) (fun _ _ _ h => h) (yields_build rfl 31 #[(0, .tmp 13), (1, .tmp 15), (2, .tmp 18)] rfl _ hb3) hS1 ?_
      refine wpAnyH_one 8 _ (by kernel_rfl) rfl ?_
      go_wp2
      refine ⟨hS1.alloc hS1.size _, ?_⟩
      refine wpAnyH_one 9 _ (by kernel_rfl) rfl ?_
      have hsi := sgc_info seed (unhide Hs) (x : Int) (.slice (some ⟨gc, 0, none⟩) 16 cap)
      have hso := sgc_one seed (x : Int) (some ⟨gc, 0, none⟩) 16 cap
      have hsz := sg0_size seed (unhide Hs) (x : Int) (.slice (some ⟨gc, 0, none⟩) 16 cap)
      have hgz : gc < w1.heap.size := by
        obtain ⟨b', off', e', h', _⟩ := hDg.2 (by intro h0; rw [h0] at hDg; have := unhide Hlen; rw [h0] at this; simp at this)
        cases e'; exact h'
      obtain ⟨CC, hCC⟩ : ∃ CC, sgc seed (x : Int) (.slice (some ⟨gc, 0, none⟩) 16 cap) = CC := ⟨_, rfl⟩
      rw [hCC] at hsi hso hsz
      rw [hCC]
      have HCC := hide hCC
      clear hCC hb3
      go_wp2_with (refine wpList_store_newV rfl 31 (.tmp 9) (.tmp 19) rfl w1 sg0 _ CC rfl rfl hsi hsz hso ?_; intro w2 q2 b2 z2)
      have hS2 := hS1.trans (b2.mono hS1.size)
      refine ⟨hS2, wpAnyH_done (by kernel_rfl) ?_ _⟩
      go_wp2
      go_meet
      case rel => exact ⟨w1.heap.size, gc, cap, rfl, by rw [unhide HCC]; exact q2, hDg.below b2 (Nat.le_refl _), hS2, hS1.size, hg, by omega⟩
    · have hDX := ((unhide HD).below (unhide XB) (Nat.le_refl _)).below hS0 (Nat.le_refl _)
      have HS0 := hide hS0
      have HDX := hide hDX
      clear hS0 hDX r0 r1 r2 r3
      go_wp2
      have hSA : Below X.heap.size X ({ X with drawn := X.drawn + 1 }.alloc (.cells sg0 31)) := (unhide HS0).alloc (Nat.le_refl _) _
      have qA := al1 { X with drawn := X.drawn + 1 } (.cells sg0 31)
      have hDA := (unhide HDX).below ((Below.refl _ { X with drawn := X.drawn + 1 }).alloc (Nat.le_refl _) (.cells sg0 31)) (Nat.le_refl _)
      refine ⟨hSA, ?_⟩
      refine wpAnyH_one 6 _ (by kernel_rfl) rfl ?_
      change wpList _ _ _ _ _ ({ X with drawn := X.drawn + 1 }.alloc (.cells sg0 31))
      obtain ⟨Y, hY⟩ : ∃ Y, { X with drawn := X.drawn + 1 }.alloc (.cells sg0 31) = Y := ⟨_, rfl⟩
      rw [hY] at hSA qA hDA
      rw [hY]
      have zA : X.heap.size < Y.heap.size := (Array.getElem?_eq_some_iff.1 qA).1
      clear hY
      go_wp2_with fail
      refine (unhide hcl _ hDA).mono ?_
      rintro e w1 ⟨⟨gc, cap, rfl, hg, hDg⟩, b1⟩
      have hS1 : Below X.heap.size X w1 := hSA.trans (b1.mono hSA.size)
      have q1 : w1.heap[X.heap.size]? = some (.cells sg0 31 (0, 0)) := Below.at b1 zA qA
      have hb3 := unhide hbs (some ⟨gc, 0, none⟩) 16 cap
      go_wp2
      refine ⟨hS1, ?_⟩
      refine wpAnyH_take (i := 7) rfl (by kernel_rfl) (by kernel_rfl) (by kernel_rfl) (fun _ _ _ h => h) (yields_build rfl 31 #[(0, .tmp 13), (1, .tmp 15), (2, .tmp 18)] rfl _ hb3) hS1 ?_
      refine wpAnyH_one 9 _ (by kernel_rfl) rfl ?_
      have hsi := sgc_info seed (unhide Hs) (x : Int) (.slice (some ⟨gc, 0, none⟩) 16 cap)
      have hso := sgc_one seed (x : Int) (some ⟨gc, 0, none⟩) 16 cap
      have hsz := sg0_size seed (unhide Hs) (x : Int) (.slice (some ⟨gc, 0, none⟩) 16 cap)
      obtain ⟨CC, hCC⟩ : ∃ CC, sgc seed (x : Int) (.slice (some ⟨gc, 0, none⟩) 16 cap) = CC := ⟨_, rfl⟩
      rw [hCC] at hsi hso hsz
      rw [hCC]
      have HCC := hide hCC
      clear hCC hb3
      go_wp2_with (refine wpList_store_row rfl 31 (.tmp 9) (.tmp 19) rfl X.heap.size CC rfl rfl 31 _ q1 hsi hsz hso ?_)
      have hS2 : Below X.heap.size X (w1.setRow X.heap.size CC) := below_setRow hS1 (Nat.le_refl _) _
      refine ⟨hS2, wpAnyH_done (by kernel_rfl) ?_ _⟩
      go_wp2
      go_meet
      case rel => exact ⟨X.heap.size, gc, cap, rfl, by rw [unhide HCC]; exact setRow_heap _ _ _ _ _ _ q1, hDg.other (setRow_size _ _ _) (fun _ b' off' e' => by cases e'; exact setRow_other _ _ _ _ (by omega)), hS2, Nat.le_refl _, by omega, by omega⟩
  case rest =>
    obtain ⟨G, gc, cap, rfl, qG, hDg, hbX, zG, zgc, hne⟩ := hcut
    have hxs := unhide Xs
    have c0 := Below.at hbX (by omega) (unhide X0)
    have c1 := Below.at hbX (by omega) (unhide X1)
    have c2 := Below.at hbX (by omega) (unhide X2)
    have c3 := Below.at hbX (by omega) (unhide x3)
    have bW : Below w.heap.size w wc := (unhide XB).trans (hbX.mono (unhide XB).size)
    have hGn : w.heap.size + 1 + 1 + 1 < G := by omega
    have n0 : wc.cell? ⟨w.heap.size, 32, none⟩ = some (.int .i64 (x : Int)) := by rw [cell_of_row _ _ _ _ _ _ c0]; exact cn
    have HG := hide hGn
    have Hgne := hide hne
    have HgcX : Hid (w.heap.size + 1 + 1 + 1 < gc) := hide (by omega)
    clear hxs hbX zG zgc hne hGn hcl hbs
    go_wp2_with fail
    refine (unhide hk _).mono ?_
    rintro e w4 ⟨rfl, rfl⟩
    go_wp2_with (first
      | (refine wpList_load_row rfl 31 (.tmp 3) rfl w.heap.size rfl 31 C (0, 0) _ c0 Tryd.underlying31 rfl hiC ?_)
      | (refine wpList_load_row rfl 23 (.tmp 5) rfl (w.heap.size + 1) rfl 23 _ (0, 0) _ c1 Tryd.underlying23 rfl hid ?_))
    refine (unhide hag _ ((unhide HD).below bW (Nat.le_refl _)) ((unhide HT).below bW (Nat.le_refl _))).mono ?_
    rintro e w5 ⟨⟨cs, rfl, hSig⟩, b5⟩
    have d2 := Below.at b5 (Array.getElem?_eq_some_iff.1 c2).1 c2
    have d3 := Below.at b5 (Array.getElem?_eq_some_iff.1 c3).1 c3
    have dG := Below.at b5 (Array.getElem?_eq_some_iff.1 qG).1 qG
    have hDg5 := hDg.below b5 (Nat.le_refl _)
    have bW5 : Below w.heap.size w w5 := bW.trans (b5.mono bW.size)
    have hsz := hSig.size
    have hsi := sig_info cs hsz.1
    have hso := hsz.2
    have hsq : sigZ.size = cs.size := by rw [hsz.1]; rfl
    have zG5 : G < w4.heap.size := (Array.getElem?_eq_some_iff.1 qG).1
    have zc : w4.heap.size ≤ w5.heap.size := b5.size
    have HSig := hide hSig
    have HS := Hs
    have ZG5 := hide zG5
    have Zc := hide zc
    have hset : Hid ((sgc seed (x : Int) (.slice (some ⟨gc, 0, none⟩) 16 cap)).setIfInBounds 32 (.int .i64 ((x : Int) + 1)) = sgc seed ((x : Int) + 1) (.slice (some ⟨gc, 0, none⟩) 16 cap)) := hide (sgc_set seed (unhide Hs) _ _ _)
    have hwx : IntKind.i64.wrap ((x : Int) + 1) = (x : Int) + 1 := wi64 _ (by omega) (by have := unhide Hx; omega)
    clear hsz hSig c0 c1 c2 c3 n0 qG hDg b5 bW zG5 zc
    go_upto_region 8 with (refine wpList_store_newV rfl 26 (.tmp 10) (.tmp 33) rfl w5 sigZ _ cs rfl rfl hsi hsq hso ?_; intro w6 q6 b6 z6; have eG := Below.at b6 (Array.getElem?_eq_some_iff.1 dG).1 dG; have nG : w6.cell? ⟨G, 32, none⟩ = some (.int .i64 (x : Int)) := (cell_of_row _ _ _ _ _ _ eG).trans (sgc_next seed (unhide Hs) _ _); have fG : w6.frozen? ⟨G, 32, none⟩ = false := frozen_of_row _ _ _ _ _ eG)
    have e2 := Below.at b6 (Array.getElem?_eq_some_iff.1 d2).1 d2
    have e3 := Below.at b6 (Array.getElem?_eq_some_iff.1 d3).1 d3
    have hDg6 := hDg5.below b6 (Nat.le_refl _)
    have bW6 : Below w.heap.size w w6 := bW5.trans (b6.mono bW5.size)
    have HSig6 := hide ((unhide HSig).below b6)
    have eS := heap_setCell_same _ _ 32 _ _ (.int .i64 ((x : Int) + 1)) eG
    rw [unhide hset] at eS
    have hGn := unhide HG
    have hG5 := unhide ZG5
    have hc5 := unhide Zc
    have hoth : ∀ k, k ≠ G → (w6.setCell ⟨G, 32, none⟩ (.int .i64 ((x : Int) + 1))).heap[k]? = w6.heap[k]? := fun k hk => heap_setCell_other _ _ _ _ (by show k ≠ G; exact hk)
    have f2 := (hoth (w.heap.size + 1 + 1) (by omega)).trans e2
    have f3 := (hoth (w.heap.size + 1 + 1 + 1) (by omega)).trans e3
    have f6 := (hoth w5.heap.size (by omega)).trans q6
    have bW7 : Below w.heap.size w (w6.setCell ⟨G, 32, none⟩ (.int .i64 ((x : Int) + 1))) := bW6.setCell (p := ⟨G, 32, none⟩) (by show w.heap.size ≤ G; omega) _
    have hD7 : DL (w6.setCell ⟨G, 32, none⟩ (.int .i64 ((x : Int) + 1))) (some ⟨gc, 0, none⟩) ds := hDg6.other (by simp) (fun _ b' off' e' => by cases e'; exact hoth gc (by have := unhide Hgne; omega))
    have HS7 : Hid (SigAt (w6.setCell ⟨G, 32, none⟩ (.int .i64 ((x : Int) + 1))) w4.heap.size seed d ds x cs) := hide (by
      obtain ⟨g, gp, h1, h2, h3, h4, h5, h6⟩ := (unhide HSig6).ex
      exact ⟨g, gp, h1, h2, h3, (hoth g (by omega)).trans h4, (hoth (g + 1) (by omega)).trans h5, (hoth gp (by omega)).trans h6⟩)
    obtain ⟨V, hV⟩ : ∃ V, w6.setCell ⟨G, 32, none⟩ (.int .i64 ((x : Int) + 1)) = V := ⟨_, rfl⟩
    rw [hV] at eS f2 f3 f6 bW7 hD7 HS7
    rw [hV]
    have hz2 := sg0_size seed (unhide Hs) ((x : Int) + 1) (.slice (some ⟨gc, 0, none⟩) 16 cap)
    have hi2 := sgc_info seed (unhide Hs) ((x : Int) + 1) (.slice (some ⟨gc, 0, none⟩) 16 cap)
    have ho2 := sgc_one seed ((x : Int) + 1) (some ⟨gc, 0, none⟩) 16 cap
    obtain ⟨SG, hSG⟩ : ∃ SG, sgc seed ((x : Int) + 1) (.slice (some ⟨gc, 0, none⟩) 16 cap) = SG := ⟨_, rfl⟩
    rw [hSG] at hz2 hi2 ho2 eS
    have HSG := hide hSG
    obtain ⟨J, hJ⟩ : ∃ J, w5.heap.size = J := ⟨_, rfl⟩
    have hJ4 : w4.heap.size ≤ J := by rw [← hJ]; exact hc5
    rw [hJ] at f6
    rw [hJ]
    have hgcz : gc < V.heap.size := by
      obtain ⟨b', off', e', h', _⟩ := hD7.2 (by intro h0; have := unhide Hlen; rw [h0] at this; simp at this)
      cases e'; exact h'
    have HgcN := unhide HgcX
    have L1 := hide hGn
    have L2 := hide hG5
    have L3 := hide hJ4
    have L4 := hide HgcN
    clear hSG hV hoth e2 e3 eG nG fG hDg6 bW6 HSig6 hset b6 z6 q6 d2 d3 dG hDg5 bW5 hGn hG5 hc5 hJ hJ4 HgcN hgcz
    have Z0 : { V with drawn := V.drawn + 1 }.heap = V.heap := rfl
    refine wp_region_held (S := fun W => W.heap[G]? = some (.cells SG 31 (0, 0)) ∧ W.heap[J]? = some (.cells cs 26 (0, 0))) mixed ?_
    have hS0 : { V with drawn := V.drawn + 1 }.heap[G]? = some (.cells SG 31 (0, 0)) ∧ { V with drawn := V.drawn + 1 }.heap[J]? = some (.cells cs 26 (0, 0)) := ⟨eS, f6⟩
    have bW8 : Below w.heap.size w { V with drawn := V.drawn + 1 } := bW7.trans ⟨rfl, rfl, rfl, Nat.le_refl _, fun _ _ => rfl⟩
    have g2 : { V with drawn := V.drawn + 1 }.heap[w.heap.size + 1 + 1]? = some (.cells sg0 31 (0, 0)) := f2
    have g3 : { V with drawn := V.drawn + 1 }.heap[w.heap.size + 1 + 1 + 1]? = some (.cells sigZ 26 (0, 0)) := f3
    have hD8 : DL { V with drawn := V.drawn + 1 } (some ⟨gc, 0, none⟩) ds := hD7.below (B := V.heap.size) ⟨rfl, rfl, rfl, Nat.le_refl _, fun _ _ => rfl⟩ (Nat.le_refl _)
    have HS8 : Hid (SigAt { V with drawn := V.drawn + 1 } w4.heap.size seed d ds x cs) := hide ((unhide HS7).below ⟨rfl, rfl, rfl, Nat.le_refl _, fun _ _ => rfl⟩)
    obtain ⟨Y, hY⟩ : ∃ Y, { V with drawn := V.drawn + 1 } = Y := ⟨_, rfl⟩
    rw [hY] at hS0 bW8 g2 g3 hD8 HS8
    rw [hY]
    clear hY Z0 f2 f3 f6 eS bW7 hD7 HS7
    refine wpAnyH_take (i := 0) rfl (by kernel_rfl) (by kernel_rfl) (by kernel_rfl) (fun _ _ _ h => h) (yields_row rfl 31 (.tmp 9) rfl G rfl 31 SG (0, 0) _ (fun W hW => hW.1) Tryd.underlying31 rfl hi2) hS0 ?_
    refine wpAnyH_take (i := 1) rfl (by kernel_rfl) (by kernel_rfl) (by kernel_rfl) (fun _ _ _ h => h) (yields_row rfl 26 (.tmp 10) rfl J rfl 26 cs (0, 0) _ (fun W hW => hW.2) Tryd.underlying26 rfl hsi) hS0 ?_
    refine wpAnyH_one 2 _ (by kernel_rfl) rfl ?_
    go_wp2_with (refine wpList_store_row rfl 31 (.tmp 6) (.tmp 44) rfl (w.heap.size + 1 + 1) SG rfl rfl 31 _ g2 hi2 hz2 ho2 ?_)
    have l1 := unhide L1
    have l2 := unhide L2
    have l3 := unhide L3
    have l4 := unhide L4
    refine ⟨⟨(setRow_other _ _ _ _ (by omega)).trans hS0.1, (setRow_other _ _ _ _ (by omega)).trans hS0.2⟩, ?_⟩
    refine wpAnyH_one 3 _ (by kernel_rfl) rfl ?_
    have k3 := (setRow_other Y (w.heap.size + 1 + 1) (w.heap.size + 1 + 1 + 1) SG (by omega)).trans g3
    go_wp2_with (refine wpList_store_row rfl 26 (.tmp 7) (.tmp 45) rfl (w.heap.size + 1 + 1 + 1) cs rfl rfl 26 _ k3 hsi hsq hso ?_)
    have oth : ∀ k, k ≠ w.heap.size + 1 + 1 → k ≠ w.heap.size + 1 + 1 + 1 → ((Y.setRow (w.heap.size + 1 + 1) SG).setRow (w.heap.size + 1 + 1 + 1) cs).heap[k]? = Y.heap[k]? := fun k h1 h2 => (setRow_other _ _ _ _ h2).trans (setRow_other _ _ _ _ h1)
    refine ⟨⟨(oth G (by omega) (by omega)).trans hS0.1, (oth J (by omega) (by omega)).trans hS0.2⟩, ?_⟩
    refine wpAnyH_one 4 _ (by kernel_rfl) rfl ?_
    go_wp2
    refine ⟨⟨(oth G (by omega) (by omega)).trans hS0.1, (oth J (by omega) (by omega)).trans hS0.2⟩, wpAnyH_done (by kernel_rfl) ?_ _⟩
    go_wp2
    refine bodyPost_ret (results_row_row_tmp rfl _ _ (w.heap.size + 1 + 1) (w.heap.size + 1 + 1 + 1) _ _ SG cs _ _ _ _ rfl rfl ((setRow_other _ _ _ _ (by omega)).trans (setRow_heap _ _ _ _ _ _ g2)) (setRow_heap _ _ _ _ _ _ k3) Tryd.underlying31 rfl hi2 Tryd.underlying26 rfl hsi) rfl ⟨⟨gc, cap, cs, by rw [unhide HSG]; rfl, by omega, ?_, ?_⟩, below_setRow (below_setRow bW8 (by omega) _) (by omega) _⟩
    · exact hD8.other (by rw [setRow_size, setRow_size]) (fun _ b' off' e' => by cases e'; exact oth gc (by omega) (by omega))
    · obtain ⟨g, gp, h1, h2, h3, h4, h5, h6⟩ := (unhide HS8).ex
      exact ⟨g, gp, by omega, by omega, h3, (oth g (by omega) (by omega)).trans h4, (oth (g + 1) (by omega) (by omega)).trans h5, (oth gp (by omega) (by omega)).trans h6⟩
end Go.Proofs.YtdkaphebdkdfhaaDoor

namespace Go.Proofs.YtdkaphebdkdfhaaDoor
open Go.RowKit
set_option linter.unusedSimpArgs false
set_option linter.unusedVariables false

theorem dig_self (d : List UInt8) (hd : d.length = 32) (w : World) : (binOp .eql 23 (.agg (bc d)) (.agg (bc d))).run Tryd.prog w = .ok (.bool true) w := by
  obtain ⟨la, hla⟩ := keyLits_ints (P := Tryd.prog) 23 5 32 .u8 Tryd.underlying23 Tryd.underlying5 (by kernel_rfl) (by kernel_rfl) (d.map fun b => (b.toNat : Int)) (by simpa using hd) (fun z hz => by
    obtain ⟨b, _, rfl⟩ := List.mem_map.1 hz
    have := b.toNat_lt
    simp [Lit.wf, IntKind.min, IntKind.max, IntKind.signed, IntKind.bits]; omega)
  refine eql_refl 23 2 2 (by omega) (by kernel_rfl) _ ?_ la ?_ w
  · simp only [Value.formed, Tryd.underlying23, bc_size, hd]; kernel_rfl
  · rw [← hla]; simp [bc, Lib.byteCells]; rfl
end Go.Proofs.YtdkaphebdkdfhaaDoor

namespace Go.Proofs.YtdkaphebdkdfhaaDoor
open Go Go.RowKit
set_option linter.unusedSimpArgs false
set_option linter.unusedVariables false

theorem verify_empty (root d : Array Value) (w : World) :
    Calls Tryd.prog 10 #[.pointer none, .agg root, .agg d, .agg sigZ] w fun e w' => e = .returned (.bool false) ∧ Below w.heap.size w w' := by
  have hb := bel3 w (.cells root 23) (.cells d 23) (.cells sigZ 26)
  have hk := hide fun W => isKey_calls 0 W
  unfold sigZ at *
  go_enter Tryd.func10, Tryd.ntmps10
  go_wp2_with fail
  refine (unhide hk _).mono ?_
  rintro e w1 ⟨rfl, rfl⟩
  go_wp2
  go_ret
  exact ⟨rfl, hb⟩
theorem path_dl {w : World} {ds : List (List UInt8)} (hds : ds.length = 16) (h : ∀ d ∈ ds, d.length = 32) (x : Nat) (hx : x < 16) (gp : Nat) (t : TypeId) (hg : w.heap[gp]? = some (.cells (bc (pathB ds x 4)) t (0, 0))) : DL w (some ⟨gp, 0, none⟩) (kPath ds x) := by
  refine DL_of_cells (fun d hd => ?_) hg ?_
  · obtain ⟨i, hi, rfl⟩ := List.mem_map.1 hd
    exact pathAt_length ds hds h x hx i (List.mem_range.1 hi)
  · have e : (kPath ds x).flatten = pathB ds x 4 := by unfold kPath pathB; rw [List.flatMap_def]
    have hl := pathB_length ds hds h x hx 4 (Nat.le_refl _)
    rw [e, kPath_length, List.take_of_length_le (by simp [bc_size, hl])]
    simp [bc]
set_option maxHeartbeats 4000000 in
set_option maxRecDepth 100000 in
theorem verify_true (seed d : List UInt8) (hs : seed.length = 32) (hd : d.length = 32) (ds : List (List UInt8)) (hds : ds.length = 16) (h32 : ∀ d ∈ ds, d.length = 32) (x : Nat) (hx : x < 16) (hw : ds.getD x [] = pWord seed x) (B : Nat) (cs : Array Value) (w : World) (hS : SigAt w B seed d ds x cs) (tabs : Tabs w) :
    Calls Tryd.prog 10 #[.pointer none, .agg (bc (kRoot ds)), .agg (bc d), .agg cs] w fun e w' => e = .returned (.bool true) ∧ Below w.heap.size w w' := by
  obtain ⟨g, gp, _, _, rfl, s1, s2, s3⟩ := hS.ex
  have hRl := kRoot_length ds hds
  have hiR := digInfo _ hRl
  have hid := digInfo d hd
  have hk := hide fun W => isKey_calls (x : Int) W
  have hkk : (if (0 : Int) ≤ (x : Int) then decide ((x : Int) < 16) else false) = true := by rw [if_pos (by omega)]; simp; omega
  rw [hkk] at hk
  have hPl := pParts_length seed x d 32
  have hOl := pOthers_length seed x d 32
  have co := hide fun W h1 h2 b1 b2 t => opened_calls d hd (pParts seed x d 32) (pOthers seed x d 32) hPl hOl g 0 32 (g + 1) 0 32 W h1 h2 b1 b2 t
  rw [open_word] at co
  have hWl := pWord_length seed x
  have hiW := digInfo _ hWl
  have hzW := zeroSize _ hWl
  have cc := hide fun W hD t => kclimb_calls (pWord seed x) hWl x (by omega) (kPath ds x) (some ⟨gp, 0, none⟩) 4 (by rw [kPath_length]; omega) W hD t
  rw [kPath_length, ← hw, kClimb_root ds hds x hx, hw] at cc
  have heq := hide fun W => dig_self (kRoot ds) hRl W
  have hpd := hide fun (W : World) hg => path_dl (w := W) hds h32 x hx gp 23 hg
  clear hw hS
  generalize kRoot ds = R at *
  generalize pWord seed x = WD at *
  obtain ⟨q0, q1, q2⟩ := al3 w (.cells (bc R) 23) (.cells (bc d) 23) (.cells #[.int .i64 (x : Int), .slice (some ⟨g, 0, none⟩) 32 32, .slice (some ⟨g + 1, 0, none⟩) 32 32, .slice (some ⟨gp, 0, none⟩) 4 4] 26)
  have hb := bel3 w (.cells (bc R) 23) (.cells (bc d) 23) (.cells #[.int .i64 (x : Int), .slice (some ⟨g, 0, none⟩) 32 32, .slice (some ⟨g + 1, 0, none⟩) 32 32, .slice (some ⟨gp, 0, none⟩) 4 4] 26)
  have u1 := hide (Below.at hb (Array.getElem?_eq_some_iff.1 s1).1 s1)
  have u2 := hide (Below.at hb (Array.getElem?_eq_some_iff.1 s2).1 s2)
  have u3 := hide (Below.at hb (Array.getElem?_eq_some_iff.1 s3).1 s3)
  have HT := hide (tabs.below hb (Nat.le_refl _))
  clear hkk hRl s1 s2 s3 tabs hPl hOl h32 hds
  obtain ⟨X, hX⟩ : ∃ X, ((w.alloc (.cells (bc R) 23)).alloc (.cells (bc d) 23)).alloc (.cells #[.int .i64 (x : Int), .slice (some ⟨g, 0, none⟩) 32 32, .slice (some ⟨g + 1, 0, none⟩) 32 32, .slice (some ⟨gp, 0, none⟩) 4 4] 26) = X := ⟨_, rfl⟩
  rw [hX] at q0 q1 q2 hb u1 u2 u3 HT
  have HX := hide hX
  have zX := (Array.getElem?_eq_some_iff.1 q2).1
  have c0 : X.cell? ⟨w.heap.size + 1 + 1, 0, none⟩ = some (.int .i64 (x : Int)) := cell_of_row _ _ _ _ _ _ q2
  have c1 : X.cell? ⟨w.heap.size + 1 + 1, 1, none⟩ = some (.slice (some ⟨g, 0, none⟩) 32 32) := cell_of_row _ _ _ _ _ _ q2
  have c2 : X.cell? ⟨w.heap.size + 1 + 1, 2, none⟩ = some (.slice (some ⟨g + 1, 0, none⟩) 32 32) := cell_of_row _ _ _ _ _ _ q2
  have c3 : X.cell? ⟨w.heap.size + 1 + 1, 3, none⟩ = some (.slice (some ⟨gp, 0, none⟩) 4 4) := cell_of_row _ _ _ _ _ _ q2
  clear hX
  go_enter Tryd.func10, Tryd.ntmps10
  go_wp2_with (rw [unhide HX])
  refine (unhide hk _).mono ?_
  rintro e w1 ⟨rfl, h1⟩
  rw [h1]
  clear h1
  go_wp2_with (refine wpList_load_row rfl 23 (.tmp 6) rfl (w.heap.size + 1) rfl 23 _ (0, 0) _ q1 Tryd.underlying23 rfl hid ?_)
  refine (unhide co _ (Array.getElem?_eq_some_iff.1 (unhide u1)).1 (Array.getElem?_eq_some_iff.1 (unhide u2)).1 (bytes_of_row (unhide u1)) (bytes_of_row (unhide u2)) (unhide HT)).mono ?_
  rintro e w2 ⟨rfl, b2⟩
  have z2 := b2.size
  have bW2 : Below w.heap.size w w2 := hb.trans (b2.mono hb.size)
  go_wp2_with (refine wpList_store_new rfl 23 (.tmp 9) (.tmp 29) rfl w2 _ _ WD rfl rfl hiW hzW ?_; intro w3 q9 b3 z3)
  have b13 : Below X.heap.size X w3 := b2.trans (b3.mono z2)
  have bW3 : Below w.heap.size w w3 := bW2.trans (b3.mono bW2.size)
  have p0 := Below.at b13 (Array.getElem?_eq_some_iff.1 q0).1 q0
  have p2 := Below.at b13 zX q2
  have p3 := Below.at b13 (Array.getElem?_eq_some_iff.1 (unhide u3)).1 (unhide u3)
  have t3 := (unhide HT).below b13 (Nat.le_refl _)
  have zp2 := (Array.getElem?_eq_some_iff.1 p2).1
  obtain ⟨K, hK⟩ : ∃ K, w2.heap.size = K := ⟨_, rfl⟩
  rw [hK] at q9
  rw [hK]
  have R0 : Hid (∀ w', (∃ p : Regrown, w' = Sort.grow (redrawn w3 p.d) p.os) → w'.heap[w.heap.size]? = some (.cells (bc R) 23 (0, 0))) := fun w' ⟨p, hp⟩ => by rw [hp]; exact Below.at (below_regrown w3 p.d p.os) (Array.getElem?_eq_some_iff.1 p0).1 p0
  have R9 : Hid (∀ w', (∃ p : Regrown, w' = Sort.grow (redrawn w3 p.d) p.os) → w'.heap[K]? = some (.cells (bc WD) 23 (0, 0))) := fun w' ⟨p, hp⟩ => by rw [hp]; exact Below.at (below_regrown w3 p.d p.os) (Array.getElem?_eq_some_iff.1 q9).1 q9
  have d0 : ∀ d os, (Sort.grow (redrawn w3 d) os).cell? ⟨w.heap.size + 1 + 1, 0, none⟩ = some (.int .i64 (x : Int)) := fun d os => by
    rw [(below_regrown w3 d os).cell (p := ⟨w.heap.size + 1 + 1, 0, none⟩) zp2]; exact cell_of_row _ _ _ _ _ _ p2
  have d3 : ∀ d os, (Sort.grow (redrawn w3 d) os).cell? ⟨w.heap.size + 1 + 1, 3, none⟩ = some (.slice (some ⟨gp, 0, none⟩) 4 4) := fun d os => by
    rw [(below_regrown w3 d os).cell (p := ⟨w.heap.size + 1 + 1, 3, none⟩) zp2]; exact cell_of_row _ _ _ _ _ _ p2
  have kC := hide fun d os => Calls.regrown_of (w := w3) (d := d) (os := os) (unhide cc _ (unhide hpd _ (Below.at (below_regrown w3 d os) (Array.getElem?_eq_some_iff.1 p3).1 p3)) (t3.below (below_regrown w3 d os) (Nat.le_refl _)))
  clear c0 c1 c2 c3 q0 q1 q2 q9 p0 p2 p3 t3 b2 b3 b13 z2 z3 hK zp2 zX bW2
  go_wp2_with fail
  refine wp_region_below mixed (by kernel_rfl) ?_
  quiet_step (fail)
  quiet_step (fail)
  quiet_step (fail)
  refine wpQuiet_load_row rfl 23 (.tmp 9) rfl K rfl 23 _ (0, 0) _ (unhide R9) Tryd.underlying23 rfl hiW ?_
  quiet_step (fail)
  quiet_step (fail)
  quiet_step (fail)
  quiet_step (fail)
  quiet_step (exact unhide kC _ _)
  refine wpQuiet_load_row rfl 23 (.tmp 5) rfl w.heap.size rfl 23 _ (0, 0) _ (unhide R0) Tryd.underlying23 rfl hiR ?_
  refine wpQuiet_eql rfl 23 23 (.tmp 39) (.tmp 40) rfl _ _ rfl rfl (by kernel_rfl) true (unhide heq) ?_
  quiet_step (fail)
  repeat (quiet_step (fail))
  refine wpQuiet_nil ?_
  intro w4 b4
  go_wp2
  go_ret
  exact ⟨rfl, bW3.trans (b4.mono bW3.size)⟩
end Go.Proofs.YtdkaphebdkdfhaaDoor

namespace Go.Proofs.YtdkaphebdkdfhaaDoor
open Go Go.RowKit
set_option linter.unusedSimpArgs false
set_option linter.unusedVariables false

set_option maxHeartbeats 4000000 in
set_option maxRecDepth 100000 in
theorem verify_at (seed d : List UInt8) (hs : seed.length = 32) (hd : d.length = 32) (e : List UInt8) (he : e.length = 32) (ds : List (List UInt8)) (hds : ds.length = 16) (h32 : ∀ d ∈ ds, d.length = 32) (x : Nat) (hx : x < 16) (B : Nat) (cs : Array Value) (w : World) (hS : SigAt w B seed d ds x cs) (tabs : Tabs w) :
    Calls Tryd.prog 10 #[.pointer none, .agg (bc (kRoot ds)), .agg (bc e), .agg cs] w fun en w' => en = .returned (.bool (decide (kClimb (pWordOf (pOpen e (pParts seed x d 32) (pOthers seed x d 32) 32)) x (kPath ds x) 4 = kRoot ds))) ∧ Below w.heap.size w w' := by
  obtain ⟨g, gp, _, _, rfl, s1, s2, s3⟩ := hS.ex
  have hRl := kRoot_length ds hds
  have hiR := digInfo _ hRl
  have hid := digInfo e he
  have hk := hide fun W => isKey_calls (x : Int) W
  have hkk : (if (0 : Int) ≤ (x : Int) then decide ((x : Int) < 16) else false) = true := by rw [if_pos (by omega)]; simp; omega
  rw [hkk] at hk
  have hPl := pParts_length seed x d 32
  have hOl := pOthers_length seed x d 32
  have co := hide fun W h1 h2 b1 b2 t => opened_calls e he (pParts seed x d 32) (pOthers seed x d 32) hPl hOl g 0 32 (g + 1) 0 32 W h1 h2 b1 b2 t
  have hWl : (pWordOf (pOpen e (pParts seed x d 32) (pOthers seed x d 32) 32)).length = 32 := pOf_length _ _
  have hiW := digInfo _ hWl
  have hzW := zeroSize _ hWl
  have cc := hide fun W hD t => kclimb_calls (pWordOf (pOpen e (pParts seed x d 32) (pOthers seed x d 32) 32)) hWl x (by omega) (kPath ds x) (some ⟨gp, 0, none⟩) 4 (by rw [kPath_length]; omega) W hD t
  rw [kPath_length] at cc
  have hTl := kClimb_length (pWordOf (pOpen e (pParts seed x d 32) (pOthers seed x d 32) 32)) x (kPath ds x) hWl 4
  have heq := hide fun W => dig_eq (kClimb (pWordOf (pOpen e (pParts seed x d 32) (pOthers seed x d 32) 32)) x (kPath ds x) 4) (kRoot ds) hTl hRl W
  have hpd := hide fun (W : World) hg => path_dl (w := W) hds h32 x hx gp 23 hg
  clear hS
  obtain ⟨ans, hans⟩ : ∃ ans, decide (kClimb (pWordOf (pOpen e (pParts seed x d 32) (pOthers seed x d 32) 32)) x (kPath ds x) 4 = kRoot ds) = ans := ⟨_, rfl⟩
  rw [hans] at heq ⊢
  generalize kClimb (pWordOf (pOpen e (pParts seed x d 32) (pOthers seed x d 32) 32)) x (kPath ds x) 4 = TD at *
  generalize kRoot ds = R at *
  generalize pWordOf (pOpen e (pParts seed x d 32) (pOthers seed x d 32) 32) = WD at *
  obtain ⟨q0, q1, q2⟩ := al3 w (.cells (bc R) 23) (.cells (bc e) 23) (.cells #[.int .i64 (x : Int), .slice (some ⟨g, 0, none⟩) 32 32, .slice (some ⟨g + 1, 0, none⟩) 32 32, .slice (some ⟨gp, 0, none⟩) 4 4] 26)
  have hb := bel3 w (.cells (bc R) 23) (.cells (bc e) 23) (.cells #[.int .i64 (x : Int), .slice (some ⟨g, 0, none⟩) 32 32, .slice (some ⟨g + 1, 0, none⟩) 32 32, .slice (some ⟨gp, 0, none⟩) 4 4] 26)
  have u1 := hide (Below.at hb (Array.getElem?_eq_some_iff.1 s1).1 s1)
  have u2 := hide (Below.at hb (Array.getElem?_eq_some_iff.1 s2).1 s2)
  have u3 := hide (Below.at hb (Array.getElem?_eq_some_iff.1 s3).1 s3)
  have HT := hide (tabs.below hb (Nat.le_refl _))
  clear hkk hRl hTl hans s1 s2 s3 tabs hPl hOl h32 hds
  obtain ⟨X, hX⟩ : ∃ X, ((w.alloc (.cells (bc R) 23)).alloc (.cells (bc e) 23)).alloc (.cells #[.int .i64 (x : Int), .slice (some ⟨g, 0, none⟩) 32 32, .slice (some ⟨g + 1, 0, none⟩) 32 32, .slice (some ⟨gp, 0, none⟩) 4 4] 26) = X := ⟨_, rfl⟩
  rw [hX] at q0 q1 q2 hb u1 u2 u3 HT
  have HX := hide hX
  have zX := (Array.getElem?_eq_some_iff.1 q2).1
  have c0 : X.cell? ⟨w.heap.size + 1 + 1, 0, none⟩ = some (.int .i64 (x : Int)) := cell_of_row _ _ _ _ _ _ q2
  have c1 : X.cell? ⟨w.heap.size + 1 + 1, 1, none⟩ = some (.slice (some ⟨g, 0, none⟩) 32 32) := cell_of_row _ _ _ _ _ _ q2
  have c2 : X.cell? ⟨w.heap.size + 1 + 1, 2, none⟩ = some (.slice (some ⟨g + 1, 0, none⟩) 32 32) := cell_of_row _ _ _ _ _ _ q2
  have c3 : X.cell? ⟨w.heap.size + 1 + 1, 3, none⟩ = some (.slice (some ⟨gp, 0, none⟩) 4 4) := cell_of_row _ _ _ _ _ _ q2
  clear hX
  go_enter Tryd.func10, Tryd.ntmps10
  go_wp2_with (rw [unhide HX])
  refine (unhide hk _).mono ?_
  rintro en w1 ⟨rfl, h1⟩
  rw [h1]
  clear h1
  go_wp2_with (refine wpList_load_row rfl 23 (.tmp 6) rfl (w.heap.size + 1) rfl 23 _ (0, 0) _ q1 Tryd.underlying23 rfl hid ?_)
  refine (unhide co _ (Array.getElem?_eq_some_iff.1 (unhide u1)).1 (Array.getElem?_eq_some_iff.1 (unhide u2)).1 (bytes_of_row (unhide u1)) (bytes_of_row (unhide u2)) (unhide HT)).mono ?_
  rintro en w2 ⟨rfl, b2⟩
  have z2 := b2.size
  have bW2 : Below w.heap.size w w2 := hb.trans (b2.mono hb.size)
  go_wp2_with (refine wpList_store_new rfl 23 (.tmp 9) (.tmp 29) rfl w2 _ _ WD rfl rfl hiW hzW ?_; intro w3 q9 b3 z3)
  have b13 : Below X.heap.size X w3 := b2.trans (b3.mono z2)
  have bW3 : Below w.heap.size w w3 := bW2.trans (b3.mono bW2.size)
  have p0 := Below.at b13 (Array.getElem?_eq_some_iff.1 q0).1 q0
  have p2 := Below.at b13 zX q2
  have p3 := Below.at b13 (Array.getElem?_eq_some_iff.1 (unhide u3)).1 (unhide u3)
  have t3 := (unhide HT).below b13 (Nat.le_refl _)
  have zp2 := (Array.getElem?_eq_some_iff.1 p2).1
  obtain ⟨K, hK⟩ : ∃ K, w2.heap.size = K := ⟨_, rfl⟩
  rw [hK] at q9
  rw [hK]
  have R0 : Hid (∀ w', (∃ p : Regrown, w' = Sort.grow (redrawn w3 p.d) p.os) → w'.heap[w.heap.size]? = some (.cells (bc R) 23 (0, 0))) := fun w' ⟨p, hp⟩ => by rw [hp]; exact Below.at (below_regrown w3 p.d p.os) (Array.getElem?_eq_some_iff.1 p0).1 p0
  have R9 : Hid (∀ w', (∃ p : Regrown, w' = Sort.grow (redrawn w3 p.d) p.os) → w'.heap[K]? = some (.cells (bc WD) 23 (0, 0))) := fun w' ⟨p, hp⟩ => by rw [hp]; exact Below.at (below_regrown w3 p.d p.os) (Array.getElem?_eq_some_iff.1 q9).1 q9
  have d0 : ∀ d os, (Sort.grow (redrawn w3 d) os).cell? ⟨w.heap.size + 1 + 1, 0, none⟩ = some (.int .i64 (x : Int)) := fun d os => by
    rw [(below_regrown w3 d os).cell (p := ⟨w.heap.size + 1 + 1, 0, none⟩) zp2]; exact cell_of_row _ _ _ _ _ _ p2
  have d3 : ∀ d os, (Sort.grow (redrawn w3 d) os).cell? ⟨w.heap.size + 1 + 1, 3, none⟩ = some (.slice (some ⟨gp, 0, none⟩) 4 4) := fun d os => by
    rw [(below_regrown w3 d os).cell (p := ⟨w.heap.size + 1 + 1, 3, none⟩) zp2]; exact cell_of_row _ _ _ _ _ _ p2
  have kC := hide fun d os => Calls.regrown_of (w := w3) (d := d) (os := os) (unhide cc _ (unhide hpd _ (Below.at (below_regrown w3 d os) (Array.getElem?_eq_some_iff.1 p3).1 p3)) (t3.below (below_regrown w3 d os) (Nat.le_refl _)))
  clear c0 c1 c2 c3 q0 q1 q2 q9 p0 p2 p3 t3 b2 b3 b13 z2 z3 hK zp2 zX bW2
  go_wp2_with fail
  refine wp_region_below mixed (by kernel_rfl) ?_
  quiet_step (fail)
  quiet_step (fail)
  quiet_step (fail)
  refine wpQuiet_load_row rfl 23 (.tmp 9) rfl K rfl 23 _ (0, 0) _ (unhide R9) Tryd.underlying23 rfl hiW ?_
  quiet_step (fail)
  quiet_step (fail)
  quiet_step (fail)
  quiet_step (fail)
  quiet_step (exact unhide kC _ _)
  refine wpQuiet_load_row rfl 23 (.tmp 5) rfl w.heap.size rfl 23 _ (0, 0) _ (unhide R0) Tryd.underlying23 rfl hiR ?_
  refine wpQuiet_eql rfl 23 23 (.tmp 39) (.tmp 40) rfl _ _ rfl rfl (by kernel_rfl) ans (unhide heq) ?_
  quiet_step (fail)
  repeat (quiet_step (fail))
  refine wpQuiet_nil ?_
  intro w4 b4
  go_wp2
  go_ret
  exact ⟨rfl, bW3.trans (b4.mono bW3.size)⟩
end Go.Proofs.YtdkaphebdkdfhaaDoor

namespace Go.Proofs.YtdkaphebdkdfhaaDoor
open Go Go.RowKit
set_option linter.unusedSimpArgs false
set_option linter.unusedVariables false

set_option maxHeartbeats 4000000 in
set_option maxRecDepth 100000 in
theorem uright_of (root : List UInt8) (hr : root.length = 32) (home : Nat) (hh : home < 4294967296) (a b : List UInt8) (ha : a.length = 32) (hb : b.length = 32) (cs : Array Value) (hc : cs.size = 4) (res : Bool) (w : World) (tabs : Tabs w)
    (hv : ∀ W, Below w.heap.size w W → Calls Tryd.prog 10 #[.pointer none, .agg (bc root), .agg (bc (pClaim home a b)), .agg cs] W fun e w' => e = .returned (.bool res) ∧ Below W.heap.size W w') :
    Calls Tryd.prog 17 #[.pointer none, .agg (bc root), .agg (updc home a b cs)] w fun e w' => e = .returned (.bool res) ∧ Below w.heap.size w w' := by
  have hir := digInfo root hr
  obtain ⟨q0, q1⟩ := al2 w (.cells (bc root) 23) (.cells (updc home a b cs) 45)
  have hbW := bel2 w (.cells (bc root) 23) (.cells (updc home a b cs) 45)
  have cl := hide fun W t => claim_calls home hh a b ha hb W t
  have HV := hide hv
  obtain ⟨X, hX⟩ : ∃ X, (w.alloc (.cells (bc root) 23)).alloc (.cells (updc home a b cs) 45) = X := ⟨_, rfl⟩
  rw [hX] at q0 q1 hbW
  have HX := hide hX
  have tX := tabs.below hbW (Nat.le_refl _)
  have zX := (Array.getElem?_eq_some_iff.1 q1).1
  have R0 : Hid (∀ w', (∃ p : Regrown, w' = Sort.grow (redrawn X p.d) p.os) → w'.heap[w.heap.size]? = some (.cells (bc root) 23 (0, 0))) := fun w' ⟨p, hp⟩ => by rw [hp]; exact Below.at (below_regrown X p.d p.os) (Array.getElem?_eq_some_iff.1 q0).1 q0
  have R1 : ∀ w' : World, (∃ p : Regrown, w' = Sort.grow (redrawn X p.d) p.os) → w'.heap[w.heap.size + 1]? = some (.cells (updc home a b cs) 45 (0, 0)) := fun w' ⟨p, hp⟩ => by rw [hp]; exact Below.at (below_regrown X p.d p.os) zX q1
  have RA : Hid (∀ w', (∃ p : Regrown, w' = Sort.grow (redrawn X p.d) p.os) → w'.rangeAt (w.heap.size + 1) 1 (Lib.byteCells a)) := hide fun w' hp => updc_old home a b ha hb cs w' _ _ (R1 w' hp)
  have RB : Hid (∀ w', (∃ p : Regrown, w' = Sort.grow (redrawn X p.d) p.os) → w'.rangeAt (w.heap.size + 1) 33 (Lib.byteCells b)) := hide fun w' hp => updc_new home a b ha hb cs w' _ _ (R1 w' hp)
  have RS : Hid (∀ w', (∃ p : Regrown, w' = Sort.grow (redrawn X p.d) p.os) → w'.rangeAt (w.heap.size + 1) 65 cs.toList) := hide fun w' hp => updc_sig home a b ha hb cs hc w' _ _ (R1 w' hp)
  have c0 : ∀ d os, (Sort.grow (redrawn X d) os).cell? ⟨w.heap.size + 1, 0, none⟩ = some (.int .u32 (home : Int)) := fun d os => by
    rw [cell_of_row _ _ _ _ _ _ (R1 _ ⟨⟨d, os⟩, rfl⟩)]; exact updc_home home a b cs
  have kC := hide fun d os => Calls.regrown_of (w := X) (d := d) (os := os) (unhide cl _ (tX.below (below_regrown X d os) (Nat.le_refl _)))
  have kV := hide fun d os => Calls.regrown_of (w := X) (d := d) (os := os) (unhide HV _ (hbW.trans ((below_regrown X d os).mono hbW.size)))
  have Ha := hide ha
  have Hb := hide hb
  have Hc := hide hc
  generalize pClaim home a b = D at *
  generalize updc home a b cs = UC at *
  clear tX tabs hv R1 q0 q1 zX hX ha hb hc
  go_enter Tryd.func17, Tryd.ntmps17
  go_wp2_with (rw [unhide HX])
  refine wp_region_below mixed (by kernel_rfl) ?_
  quiet_step (fail)
  refine wpQuiet_load_row rfl 23 (.tmp 4) rfl w.heap.size rfl 23 _ (0, 0) _ (unhide R0) Tryd.underlying23 rfl hir ?_
  quiet_step (fail)
  quiet_step (fail)
  quiet_step (fail)
  quiet_step (fail)
  refine wpQuiet_load_mid rfl 23 (.tmp 12) rfl (w.heap.size + 1) 1 rfl (Lib.byteCells a) _ (unhide RA) Tryd.underlying23 rfl (by rw [Lib.byteCells_length, unhide Ha]; kernel_rfl) ?_
  quiet_step (fail)
  refine wpQuiet_load_mid rfl 23 (.tmp 14) rfl (w.heap.size + 1) 33 rfl (Lib.byteCells b) _ (unhide RB) Tryd.underlying23 rfl (by rw [Lib.byteCells_length, unhide Hb]; kernel_rfl) ?_
  quiet_step (exact unhide kC _ _)
  quiet_step (fail)
  refine wpQuiet_load_mid rfl 26 (.tmp 17) rfl (w.heap.size + 1) 65 rfl cs.toList _ (unhide RS) Tryd.underlying26 rfl (by rw [Array.length_toList, unhide Hc]; kernel_rfl) ?_
  quiet_step (exact unhide kV _ _)
  repeat (quiet_step (fail))
  refine wpQuiet_nil ?_
  intro w2 b2
  go_wp2
  go_ret
  exact ⟨rfl, hbW.trans (b2.mono hbW.size)⟩
theorem built_upd (home : Nat) (a b : List UInt8) (ha : a.length = 32) (hb : b.length = 32) (x : Int) (p1 p2 p3 : Option Addr) (n1 n2 n3 c1 c2 c3 : Nat) : Tryd.prog.built 45 [(0, .int .u32 (home : Int)), (1, .agg (bc a)), (2, .agg (bc b)), (3, .agg #[.int .i64 x, .slice p1 n1 c1, .slice p2 n2 c2, .slice p3 n3 c3])] = some (updc home a b #[.int .i64 x, .slice p1 n1 c1, .slice p2 n2 c2, .slice p3 n3 c3]) := by
  obtain ⟨a0, a1, a2, a3, a4, a5, a6, a7, a8, a9, a10, a11, a12, a13, a14, a15, a16, a17, a18, a19, a20, a21, a22, a23, a24, a25, a26, a27, a28, a29, a30, a31, rfl⟩ := list32 a ha
  obtain ⟨b0, b1, b2, b3, b4, b5, b6, b7, b8, b9, b10, b11, b12, b13, b14, b15, b16, b17, b18, b19, b20, b21, b22, b23, b24, b25, b26, b27, b28, b29, b30, b31, rfl⟩ := list32 b hb
  kernel_rfl
end Go.Proofs.YtdkaphebdkdfhaaDoor

namespace Go.Proofs.YtdkaphebdkdfhaaDoor
open Go Go.RowKit
set_option linter.unusedSimpArgs false
set_option linter.unusedVariables false

/-- Where a walk stands: what was there before the log reads as it did; the log; how long it is. -/
structure WSt (w1 : World) (L : Nat) (W : World) (S : Nat → Prop) (I : List (List UInt8)) (C : Nat) : Prop where
  bw : Below w1.heap.size w1 W
  log : RLogAt W L S I
  lo : ∀ k, S k → w1.heap.size ≤ k
  len : I.length ≤ C
theorem WSt.below {w1 W W' : World} {L : Nat} {S : Nat → Prop} {I : List (List UInt8)} {C : Nat} (h : WSt w1 L W S I C) (hb : Below W.heap.size W W') : WSt w1 L W' S I C := ⟨h.bw.trans (hb.mono h.bw.size), h.log.below hb, h.lo, h.len⟩
theorem WSt.step {w1 W W' : World} {L : Nat} {S S' : Nat → Prop} {I I' : List (List UInt8)} {C c : Nat} (h : WSt w1 L W S I C) (hL : RLogAt W' L S' I') (hB : RBut S W W') (hM : ∀ k, S' k → S k ∨ W.heap.size ≤ k) (hle : I'.length ≤ I.length + c) : WSt w1 L W' S' I' (C + c) :=
  ⟨h.bw.trans (hB.to_below w1.heap.size h.lo h.bw.size), hL, fun k hk => (hM k hk).elim (h.lo k) (fun h2 => Nat.le_trans h.bw.size h2), by have := h.len; omega⟩
theorem WSt.other {w1 W W' : World} {L : Nat} {S : Nat → Prop} {I : List (List UInt8)} {C G : Nat} (h : WSt w1 L W S I C) (hG : w1.heap.size ≤ G) (hn : ¬ S G) (hk : ∀ k, k ≠ G → W'.heap[k]? = W.heap[k]?) (hs : W'.heap.size = W.heap.size) (hb : ∀ B, B ≤ G → Below B W W') : WSt w1 L W' S I C :=
  ⟨h.bw.trans (hb _ hG), h.log.kept (fun k hS => hk k (fun e => hn (by rw [← e]; exact hS))) (by rw [hs]; exact Nat.le_refl _), h.lo, h.len⟩
/-- A row that is no part of the log. -/
def Kept (W : World) (S : Nat → Prop) (g : Nat) (o : Obj) : Prop := W.heap[g]? = some o ∧ ¬ S g
theorem Kept.lt {W : World} {S : Nat → Prop} {g : Nat} {o : Obj} (h : Kept W S g o) : g < W.heap.size := (Array.getElem?_eq_some_iff.1 h.1).1
theorem Kept.below {W W' : World} {S : Nat → Prop} {g : Nat} {o : Obj} (h : Kept W S g o) (hb : Below W.heap.size W W') : Kept W' S g o := ⟨Below.at hb h.lt h.1, h.2⟩
theorem Kept.step {W W' : World} {S S' : Nat → Prop} {g : Nat} {o : Obj} (h : Kept W S g o) (hB : RBut S W W') (hM : ∀ k, S' k → S k ∨ W.heap.size ≤ k) : Kept W' S' g o :=
  ⟨(hB.block g h.lt h.2).trans h.1, fun hs => (hM _ hs).elim h.2 (fun h2 => by have := h.lt; omega)⟩
theorem Kept.other {W W' : World} {S : Nat → Prop} {g G : Nat} {o : Obj} (h : Kept W S g o) (hk : ∀ k, k ≠ G → W'.heap[k]? = W.heap[k]?) (hne : g ≠ G) : Kept W' S g o := ⟨(hk g hne).trans h.1, h.2⟩
theorem Kept.new {W W' : World} {L : Nat} {S : Nat → Prop} {I : List (List UInt8)} {o : Obj} {g : Nat} (hL : RLogAt W L S I) (hg : W.heap.size ≤ g) (h : W'.heap[g]? = some o) : Kept W' S g o := ⟨h, fun hs => by have := hL.old _ hs; omega⟩
/-- A signature beside a log. -/
def SigK (W : World) (S : Nat → Prop) (seed d : List UInt8) (ds : List (List UInt8)) (x : Nat) (cs : Array Value) : Prop :=
  ∃ g gp : Nat, cs = #[.int .i64 (x : Int), .slice (some ⟨g, 0, none⟩) 32 32, .slice (some ⟨g + 1, 0, none⟩) 32 32, .slice (some ⟨gp, 0, none⟩) 4 4] ∧
    Kept W S g (.cells (bc (pParts seed x d 32)) 23 (0, 0)) ∧ Kept W S (g + 1) (.cells (bc (pOthers seed x d 32)) 23 (0, 0)) ∧ Kept W S gp (.cells (bc (pathB ds x 4)) 23 (0, 0))
theorem SigK.below {W W' : World} {S : Nat → Prop} {seed d : List UInt8} {ds : List (List UInt8)} {x : Nat} {cs : Array Value} (h : SigK W S seed d ds x cs) (hb : Below W.heap.size W W') : SigK W' S seed d ds x cs := by
  obtain ⟨g, gp, h1, h2, h3, h4⟩ := h
  exact ⟨g, gp, h1, h2.below hb, h3.below hb, h4.below hb⟩
theorem SigK.step {W W' : World} {S S' : Nat → Prop} {seed d : List UInt8} {ds : List (List UInt8)} {x : Nat} {cs : Array Value} (h : SigK W S seed d ds x cs) (hB : RBut S W W') (hM : ∀ k, S' k → S k ∨ W.heap.size ≤ k) : SigK W' S' seed d ds x cs := by
  obtain ⟨g, gp, h1, h2, h3, h4⟩ := h
  exact ⟨g, gp, h1, h2.step hB hM, h3.step hB hM, h4.step hB hM⟩
theorem SigK.other {W W' : World} {S : Nat → Prop} {G : Nat} {seed d : List UInt8} {ds : List (List UInt8)} {x : Nat} {cs : Array Value} (h : SigK W S seed d ds x cs) (hk : ∀ k, k ≠ G → W'.heap[k]? = W.heap[k]?) (C : Array Value) (t : TypeId) (ht : t ≠ 23) (hG : W.heap[G]? = some (.cells C t (0, 0))) : SigK W' S seed d ds x cs := by
  obtain ⟨g, gp, h1, h2, h3, h4⟩ := h
  have ne : ∀ {k : Nat} {D : Array Value}, W.heap[k]? = some (.cells D 23 (0, 0)) → k ≠ G := fun hk' e => by
    rw [e, hG] at hk'
    simp only [Option.some.injEq, Obj.cells.injEq] at hk'
    exact ht hk'.2.1
  exact ⟨g, gp, h1, h2.other hk (ne h2.1), h3.other hk (ne h3.1), h4.other hk (ne h4.1)⟩
theorem SigK.of {W : World} {S : Nat → Prop} {B : Nat} {seed d : List UInt8} {ds : List (List UInt8)} {x : Nat} {cs : Array Value} (h : SigAt W B seed d ds x cs) (hB : ∀ k, S k → k < B) : SigK W S seed d ds x cs := by
  obtain ⟨g, gp, h1, h2, h3, h4, h5, h6⟩ := h.ex
  exact ⟨g, gp, h3, ⟨h4, fun hs => by have := hB _ hs; omega⟩, ⟨h5, fun hs => by have := hB _ hs; omega⟩, ⟨h6, fun hs => by have := hB _ hs; omega⟩⟩
theorem SigK.sig {W : World} {S : Nat → Prop} {seed d : List UInt8} {ds : List (List UInt8)} {x : Nat} {cs : Array Value} (h : SigK W S seed d ds x cs) : SigAt W 0 seed d ds x cs := by
  obtain ⟨g, gp, h1, h2, h3, h4⟩ := h
  exact ⟨g, gp, Nat.zero_le _, Nat.zero_le _, h1, h2.1, h3.1, h4.1⟩
/-- Whether an update with the signature of another one is right: the program's answer, and the document's. -/
def uOk (seed : List UInt8) (d e : List UInt8) : Bool := decide (kClimb (pWordOf (pOpen e (pParts seed 0 d 32) (pOthers seed 0 d 32) 32)) 0 (kPath (pLeaves seed) 0) 4 = kRoot (pLeaves seed))
theorem right_sig (seed : List UInt8) (hs : seed.length = 32) (d0 : List UInt8) (hd0 : d0.length = 32) (home : Nat) (hh : home < 4294967296) (a b : List UInt8) (ha : a.length = 32) (hb : b.length = 32) (S : Nat → Prop) (cs : Array Value) (w : World) (h : SigK w S seed d0 (pLeaves seed) 0 cs) (tabs : Tabs w) :
    Calls Tryd.prog 17 #[.pointer none, .agg (bc (kRoot (pLeaves seed))), .agg (updc home a b cs)] w fun e w' => e = .returned (.bool (uOk seed d0 (pClaim home a b))) ∧ Below w.heap.size w w' :=
  uright_of _ (kRoot_length _ (pLeaves_len seed)) home hh a b ha hb cs h.sig.size.1 _ w tabs fun W hW =>
    verify_at seed d0 hs hd0 (pClaim home a b) (pOf_length _ _) (pLeaves seed) (pLeaves_len seed) (pLeaves_32 seed) 0 (by decide) 0 cs W (h.sig.below hW) (tabs.below hW (Nat.le_refl _))
theorem rrightQ_sig (seed : List UInt8) (hs : seed.length = 32) (d0 : List UInt8) (hd0 : d0.length = 32) (home : Nat) (hh : home < 4294967296) (a b : List UInt8) (ha : a.length = 32) (hb : b.length = 32) (cs : Array Value) (L : Nat) (S : Nat → Prop) (I : List (List UInt8)) (hI : I.length ≤ 1000000000) (w : World) (hL : RLogAt w L S I) (h : SigK w S seed d0 (pLeaves seed) 0 cs) :
    Calls Tryd.prog 19 #[.pointer (some ⟨L, 0, none⟩), .agg (bc (kRoot (pLeaves seed))), .agg (updc home a b cs)] w fun e w' => e = .returned (.bool (uOk seed d0 (pClaim home a b))) ∧ QS L S I 101 (VNot (pClaim home a b) (pParts seed 0 d0 32) (pOthers seed 0 d0 32) 0 (kPath (pLeaves seed) 0)) w w' := by
  refine rrightQ_of _ (kRoot_length _ (pLeaves_len seed)) home hh a b ha hb cs h.sig.size.1 _ _ L S I hI w hL fun S' I' W hL' hB hM hle => ?_
  obtain ⟨g, gp, rfl, k1, k2, k3⟩ := h.step hB hM
  exact rverifyQ_calls _ _ (kRoot_length _ (pLeaves_len seed)) (pOf_length _ _) 0 (by decide) _ _ (pParts_length _ _ _ _) (pOthers_length _ _ _ _) (kPath (pLeaves seed) 0) (kPath_length _ _) g 0 32 (g + 1) 0 32 (some ⟨gp, 0, none⟩) 4 L S' I' (by omega) W hL' k1.lt k2.lt k1.2 k2.2 (fun a' e => by cases e; exact k3.2) (bytes_of_row k1.1) (bytes_of_row k2.1) (path_dl (pLeaves_len seed) (pLeaves_32 seed) 0 (by decide) gp _ k3.1)
end Go.Proofs.YtdkaphebdkdfhaaDoor

namespace Go.Proofs.YtdkaphebdkdfhaaDoor
open Go Go.RowKit
set_option linter.unusedSimpArgs false
set_option linter.unusedVariables false

def Md (w1 wJ : World) (L : Nat) (SJ : Nat → Prop) (IJ : List (List UInt8)) (n : Nat) (cl : List (Nat × Array Value)) (W : World) : Prop :=
  ∃ S I, WSt w1 L W S I (4000 + n) ∧ (∀ g o, Kept wJ SJ g o → Kept W S g o) ∧ (∀ s ∈ IJ, s ∈ I) ∧ (w1.heap.size ≤ wJ.heap.size ∧ wJ.heap.size ≤ W.heap.size) ∧ ∀ q ∈ cl, Kept W S q.1 (.cells q.2 23 (0, 0)) ∧ wJ.heap.size ≤ q.1
variable {w1 wJ : World} {L : Nat} {SJ : Nat → Prop} {IJ : List (List UInt8)} {n : Nat} {cl : List (Nat × Array Value)} {W : World}
theorem Md.start {C : Nat} {W : World} (h : WSt w1 L wJ SJ IJ C) (hC : C ≤ 4000) (hb : Below wJ.heap.size wJ W) : Md w1 wJ L SJ IJ 0 [] W :=
  ⟨SJ, IJ, ⟨(h.below hb).bw, (h.below hb).log, h.lo, Nat.le_trans h.len hC⟩, fun g o k => k.below hb, fun s h => h, ⟨h.bw.size, hb.size⟩, fun q hq => by cases hq⟩
theorem Md.call (h : Md w1 wJ L SJ IJ n cl W) {P : Program} {f : Nat} {args : Array Value} {v : Value} {J : List UInt8} (hn : n ≤ 1000)
    (hc : ∀ S I, I.length ≤ 1000000000000 → ∀ W, RLogAt W L S I → Calls P f args W fun e w' => e = .returned v ∧ RStep L S (rnoted J I) W w') :
    Calls P f args W fun e w' => e = .returned v ∧ Md w1 wJ L SJ IJ (n + 1) cl w' := by
  obtain ⟨S, I, st, kp, sb, sz, cs⟩ := h
  refine (hc S I (by have := st.len; omega) W st.log).mono ?_
  rintro e w' ⟨rfl, S', hL, hB, hM⟩
  exact ⟨rfl, S', rnoted J I, st.step (c := 1) hL hB hM (rnoted_le _ _), fun g o k => (kp g o k).step hB hM, fun s h => mem_rnoted_old _ _ _ (sb s h), ⟨sz.1, Nat.le_trans sz.2 hB.size⟩, fun q hq => ⟨(cs q hq).1.step hB hM, (cs q hq).2⟩⟩
theorem Md.alloc (h : Md w1 wJ L SJ IJ n cl W) (Z : Array Value) : Md w1 wJ L SJ IJ n ((W.heap.size, Z) :: cl) (W.alloc (.cells Z 23)) := by
  obtain ⟨S, I, st, kp, sb, sz, cs⟩ := h
  have hb : Below W.heap.size W (W.alloc (.cells Z 23)) := (Below.refl _ _).alloc (Nat.le_refl _) _
  refine ⟨S, I, st.below hb, fun g o k => (kp g o k).below hb, sb, ⟨sz.1, Nat.le_trans sz.2 hb.size⟩, fun q hq => ?_⟩
  rcases List.mem_cons.1 hq with rfl | hq
  · exact ⟨Kept.new st.log (Nat.le_refl _) (al1 _ _), sz.2⟩
  · exact ⟨(cs q hq).1.below hb, (cs q hq).2⟩
theorem Md.fresh (h : Md w1 wJ L SJ IJ n cl W) : ∀ q ∈ cl, q.1 ≠ W.heap.size := fun q hq => by
  obtain ⟨S, I, st, kp, sb, sz, cs⟩ := h
  have := (cs q hq).1.lt
  omega
theorem Md.cell (h : Md w1 wJ L SJ IJ n cl W) (q : Nat × Array Value) (hq : q ∈ cl) : W.heap[q.1]? = some (.cells q.2 23 (0, 0)) := by
  obtain ⟨S, I, st, kp, sb, sz, cs⟩ := h
  exact (cs q hq).1.1
theorem Md.set {g g' : Nat} {Z Z' : Array Value} (D : Array Value) (h : Md w1 wJ L SJ IJ n cl W) (hg : (g, Z) ∈ cl) (hg' : (g', Z') ∈ cl) (hne : g ≠ g') : Md w1 wJ L SJ IJ n [(g, D), (g', Z')] (W.setRow g D) := by
  obtain ⟨S, I, st, kp, sb, sz, cs⟩ := h
  obtain ⟨c1, c2⟩ := cs _ hg
  obtain ⟨d1, d2⟩ := cs _ hg'
  have oth : ∀ k, k ≠ g → (W.setRow g D).heap[k]? = W.heap[k]? := fun k hk => setRow_other _ _ _ _ hk
  have hz : (W.setRow g D).heap.size = W.heap.size := setRow_size _ _ _
  refine ⟨S, I, st.other (G := g) (Nat.le_trans sz.1 c2) c1.2 oth hz (fun B hB => below_setRow (Below.refl B W) hB D), fun k o hk => (kp k o hk).other oth (fun e => by have h1 := hk.lt; have h2 : wJ.heap.size ≤ g := c2; omega), sb, ⟨sz.1, by rw [hz]; exact sz.2⟩, fun q hq => ?_⟩
  rcases List.mem_cons.1 hq with rfl | hq
  · exact ⟨⟨setRow_heap _ _ _ _ _ _ c1.1, c1.2⟩, c2⟩
  · obtain rfl : q = (g', Z') := by simpa using hq
    exact ⟨d1.other oth (Ne.symm hne), d2⟩
end Go.Proofs.YtdkaphebdkdfhaaDoor
