/-
  WHAT THE DOCUMENT's OWN node, Of, Branch, Climb, Proves OF LAYER 7 RETURN, where there is no log.
-/
/-
  WHAT THE DOCUMENT's OWN Root OF LAYER 7 RETURNS, where there is no log.
-/
/-
  WHAT merkle's Keep RETTryd.underlying27NS.
-/
/-
  == OF A KEPT TREE WITH ITSELF.
-/
/-
  A ROW STORED INTO A BLOCK THAT WAS JUST MADE: the world behind it is a letter of which all is known. Over whatever program.
-/
/-
  MerkleKeeps: any tree that is kept, a leaf more, and its root, and the nought of any level, are the document's.
-/
/-
  WHAT THE ROWS OF LAYER 1 LIST GIVES THE WALKS: the two tables of package sha, read as the program's text lays them.
-/
/-
  ARRAYS OF NUMBERS AS ARGUMENTS: what a row hands the walks. Over whatever program.
-/
/-
  A DIGEST AS THE ARGUMENT OF A ROW.
-/
/-
  A TREE AS AN ARGUMENT: what a row hands the walks.
-/
import Derived.Test.YtkioomojdahjlaaDoorJ3
import Derived.Test.YtkioomojdahjlaaDoorJ4
import Derived.Test.YtkioomojdahjlaaDoorJ0
import Derived.Laws.Rows
import Derived.Test.YtkioomojdahjlaaDoorCards
import Derived.Test.YtkioomojdahjlaaDoorTie
import Derived.ProofKit
import Derived.OpenShut
import Derived.Deep.DeepHandedRow
import Derived.Lib.LaidTab
import Derived.WideKeyArr2
import Derived.ChangeMaps5
import Derived.Deep.Slices
import Derived.Lib.SmallJoins
import Derived.ChangeSame
import Derived.WideWitness
namespace Go.Proofs.YtkioomojdahjlaaDoor
open Go Go.RowKit
set_option linter.unusedSimpArgs false
set_option linter.unusedVariables false

theorem noughts_at (k : Nat) (hk : k < 33) : ((List.range 33).map pNought).getD k [] = pNought k := by simp [hk]
theorem st_length (ds : List (List UInt8)) (h : ∀ d ∈ ds, d.length = 32) (k i : Nat) : (st ds k i).length = 32 := by
  rw [← stand_st]
  exact pStand_length (pLev_32 ds h k) _ _ (pNought_length k)
set_option maxHeartbeats 2000000 in
set_option maxRecDepth 100000 in
theorem rnode_calls (ds : List (List UInt8)) (hlen : ds.length ≤ 100000000) (pz pl : Option Addr) (cz cl : Nat) : ∀ (k : Nat), k ≤ 32 → ∀ (x : Nat), (x + 1) * 2 ^ k ≤ 70368744177664 → ∀ (w : World), DL w pz ((List.range 33).map pNought) → DL w pl ds →
    Calls Tryd.prog 31 #[.pointer none, .slice pz 33 cz, .slice pl ds.length cl, .int .i64 (k : Int), .int .i64 (x : Int)] w fun e w' => e = .returned (.agg (bc (st ds k x))) ∧ Below w.heap.size w w' := by
  intro k
  induction k with
  | zero =>
    intro hk x hx w hZ hD
    have a1 := al1 w (.cells (bc (List.replicate 32 0)) 24)
    have b1 := hide ((Below.refl w.heap.size w).alloc (Nat.le_refl _) (.cells (bc (List.replicate 32 0)) 24))
    have cs := hide fun w => rsize_calls 0 (by decide) w
    have hx1 : x ≤ 70368744177664 := by simp at hx; omega
    have hp : (x : Int) * 1 = (x : Int) := by omega
    obtain ⟨X, hX⟩ : ∃ X, w.alloc (.cells (bc (List.replicate 32 0)) 24) = X := ⟨_, rfl⟩
    rw [hX] at a1 b1
    have HX := hide hX
    clear hX
    by_cases hlt : ds.length ≤ x
    · have hd : decide (ds.length ≤ x) = true := by simpa using hlt
      rw [st_behind ds 0 x (by simpa using hlt)]
      obtain ⟨b, off, rfl, hbz, hc⟩ := hZ.2 (by simp)
      have hr := rangeAt_below (hc 0 (by simp)) (unhide b1) hbz
      rw [noughts_at 0 (by decide)] at hr
      have hi := digInfo (pNought 0) (pNought_length 0)
      have hz : Hid ((bc (List.replicate 32 (0 : UInt8))).size = (bc (pNought 0)).size) := by show _ = _; rw [bc_size, bc_size, pNought_length]; rfl
      have ho := bc_oneCell (pNought 0)
      have hl : Hid ((pNought 0).length = 32) := pNought_length 0
      obtain ⟨D, hDD⟩ : ∃ D, pNought 0 = D := ⟨_, rfl⟩
      rw [hDD] at hr hi hz ho hl
      rw [hDD]
      have HR := hide hr
      clear hr hc hZ hD hDD hlt hx
      go_enter Tryd.func31, Tryd.ntmps31
      go_wp2_with fail
      refine (unhide cs _).mono ?_
      rintro e w2 ⟨rfl, hw2⟩
      have e2 : w2 = X := hw2.trans (unhide HX)
      clear hw2 HX
      subst e2
      go_wp2_with (first
        | refine wpList_load_mid rfl 24 (.tmp 22) rfl b (off + 0 * 32) rfl (Lib.byteCells D) _ (unhide HR) Tryd.underlying24 rfl (by rw [Lib.byteCells_length, unhide hl]; kernel_rfl) ?_
        | refine wpList_store_row rfl 24 (.tmp 10) (.tmp 23) rfl w.heap.size (bc D) rfl rfl 24 _ a1 hi (unhide hz) ho ?_)
      exact bodyPost_ret (results_cell_row rfl _ _ w.heap.size _ _ _ _ rfl (setRow_heap _ _ _ _ _ _ a1) Tryd.underlying24 rfl hi) rfl ⟨rfl, below_setRow (unhide b1) (Nat.le_refl _) _⟩
    · have hd : decide (ds.length ≤ x) = false := by simpa using hlt
      have hxl : x < ds.length := by omega
      obtain ⟨b, off, rfl, hbz, hc⟩ := hD.2 (by intro h; rw [h] at hxl; simp at hxl)
      have hr := rangeAt_below (hc x hxl) (unhide b1) hbz
      have hl0 := hD.len x hxl
      have est : st ds 0 x = ds.getD x [] := by show pStand _ _ _ = _; unfold pStand; rw [if_pos hxl]
      rw [est]
      obtain ⟨D, hDD⟩ : ∃ D, ds.getD x [] = D := ⟨_, rfl⟩
      rw [hDD] at hr hl0
      rw [hDD]
      have hi := digInfo D hl0
      have hz : Hid ((bc (List.replicate 32 (0 : UInt8))).size = (bc D).size) := by show _ = _; rw [bc_size, bc_size, hl0]; rfl
      have ho := bc_oneCell D
      have hl := hide hl0
      have HR := hide hr
      have b3 : (0 : Int) ≤ (x : Int) ∧ (x : Int) < (ds.length : Int) := by omega
      clear hr hc hZ hD hDD hlt hx hl0 est hxl
      go_enter Tryd.func31, Tryd.ntmps31
      go_wp2_with fail
      refine (unhide cs _).mono ?_
      rintro e w2 ⟨rfl, hw2⟩
      have e2 : w2 = X := hw2.trans (unhide HX)
      clear hw2 HX
      subst e2
      go_wp2_with (first
        | refine wpList_load_mid rfl 24 (.tmp 28) rfl b (off + x * 32) rfl (Lib.byteCells D) _ (unhide HR) Tryd.underlying24 rfl (by rw [Lib.byteCells_length, unhide hl]; kernel_rfl) ?_
        | refine wpList_store_row rfl 24 (.tmp 10) (.tmp 29) rfl w.heap.size (bc D) rfl rfl 24 _ a1 hi (unhide hz) ho ?_)
      exact bodyPost_ret (results_cell_row rfl _ _ w.heap.size _ _ _ _ rfl (setRow_heap _ _ _ _ _ _ a1) Tryd.underlying24 rfl hi) rfl ⟨rfl, below_setRow (unhide b1) (Nat.le_refl _) _⟩
  | succ k ih =>
    intro hk x hx w hZ hD
    have a1 := al1 w (.cells (bc (List.replicate 32 0)) 24)
    have b1 := hide ((Below.refl w.heap.size w).alloc (Nat.le_refl _) (.cells (bc (List.replicate 32 0)) 24))
    have cs := fun w => rsize_calls (k + 1) (by omega) w
    have hpow : 2 ^ (k + 1) = 2 * 2 ^ k := by rw [Nat.pow_succ]; omega
    obtain ⟨P, hP⟩ : ∃ P : Nat, x * 2 ^ (k + 1) = P := ⟨_, rfl⟩
    have hP2 : P ≤ 70368744177664 := by rw [← hP]; exact Nat.le_trans (Nat.mul_le_mul_right _ (Nat.le_succ x)) hx
    have hpos : 1 ≤ 2 ^ k := Nat.one_le_two_pow
    have hx1 : x ≤ 70368744177664 := Nat.le_trans (Nat.le_trans (by omega : x ≤ x + 1) (Nat.le_mul_of_pos_right _ (by omega))) hx
    have c1 := fun w => ih (by omega) (2 * x) (by rw [hpow, ← Nat.mul_assoc] at hx; refine Nat.le_trans (Nat.mul_le_mul_right _ (by omega : 2 * x + 1 ≤ (x + 1) * 2)) hx) w
    have c2 := fun w => ih (by omega) (2 * x + 1) (by rw [hpow, ← Nat.mul_assoc] at hx; refine Nat.le_trans (Nat.mul_le_mul_right _ (by omega : 2 * x + 1 + 1 ≤ (x + 1) * 2)) hx) w
    obtain ⟨M, hM⟩ : ∃ M, 2 ^ (k + 1) = M := ⟨_, rfl⟩
    have hMb : M ≤ 4294967296 := by rw [← hM]; exact Nat.le_trans (Nat.pow_le_pow_right (by decide) hk) (by decide)
    rw [hM] at hP cs
    have hp : (x : Int) * (M : Int) = (P : Int) := by rw [← hP]; push_cast; rfl
    obtain ⟨K, hK⟩ : ∃ K, k + 1 = K := ⟨_, rfl⟩
    have hK1 : (K : Int) - 1 = (k : Int) := by omega
    have hK0 : ((K : Int) == 0) = false := by simp; omega
    have hKb : K ≤ 32 := by omega
    obtain ⟨y, hy⟩ : ∃ y, 2 * x = y := ⟨_, rfl⟩
    have hy1 : 2 * (x : Int) = (y : Int) := by omega
    obtain ⟨y1, hy2⟩ : ∃ y1, y + 1 = y1 := ⟨_, rfl⟩
    have hy3 : (y : Int) + 1 = (y1 : Int) := by omega
    have hyb : y1 ≤ 140737488355329 := by omega
    rw [hy] at c1 c2
    rw [hy2] at c2
    have hl1 := st_length ds hD.1 k y
    have hl2 := st_length ds hD.1 k y1
    have hlt' := st_length ds hD.1 (k + 1) x
    have est : st ds (k + 1) x = pNode (st ds k y) (st ds k y1) := by rw [← hy2, ← hy]; rfl
    have ebeh := st_behind ds (k + 1) x
    rw [hM, hP] at ebeh
    have hZk : k + 1 < 33 := by omega
    have hnz := noughts_at (k + 1) hZk
    rw [hK] at cs est ebeh hnz hZk hlt'
    rw [hK]
    have cs := hide cs
    obtain ⟨X, hX⟩ : ∃ X, w.alloc (.cells (bc (List.replicate 32 0)) 24) = X := ⟨_, rfl⟩
    rw [hX] at a1 b1
    have HX := hide hX
    have zX := hide (Array.getElem?_eq_some_iff.1 a1).1
    clear hX hpow hP hpos hM hy hy2 ih hx
    by_cases hlt : ds.length ≤ P
    · have hd : decide (ds.length ≤ P) = true := by simpa using hlt
      rw [ebeh hlt]
      obtain ⟨b, off, rfl, hbz, hc⟩ := hZ.2 (by simp)
      have hr := rangeAt_below (hc K (by simpa using hZk)) (unhide b1) hbz
      rw [hnz] at hr
      have hi := digInfo (pNought K) (pNought_length K)
      have hz : Hid ((bc (List.replicate 32 (0 : UInt8))).size = (bc (pNought K)).size) := by show _ = _; rw [bc_size, bc_size, pNought_length]; rfl
      have ho := bc_oneCell (pNought K)
      have hl : Hid ((pNought K).length = 32) := pNought_length K
      obtain ⟨D, hDD⟩ : ∃ D, pNought K = D := ⟨_, rfl⟩
      rw [hDD] at hr hi hz ho hl
      rw [hDD]
      have HR := hide hr
      have b3 : (0 : Int) ≤ (K : Int) ∧ (K : Int) < 33 := by omega
      clear hr hc hZ hD hDD hlt c1 c2 hnz est ebeh hl1 hl2 hlt' hK hZk hK1 hy1 hy3
      go_enter Tryd.func31, Tryd.ntmps31
      go_wp2_with fail
      refine (unhide cs _).mono ?_
      rintro e w2 ⟨rfl, hw2⟩
      have e2 : w2 = X := hw2.trans (unhide HX)
      clear hw2 HX
      subst e2
      go_wp2_with (first
        | refine wpList_load_mid rfl 24 (.tmp 22) rfl b (off + K * 32) rfl (Lib.byteCells D) _ (unhide HR) Tryd.underlying24 rfl (by rw [Lib.byteCells_length, unhide hl]; kernel_rfl) ?_
        | refine wpList_store_row rfl 24 (.tmp 10) (.tmp 23) rfl w.heap.size (bc D) rfl rfl 24 _ a1 hi (unhide hz) ho ?_)
      exact bodyPost_ret (results_cell_row rfl _ _ w.heap.size _ _ _ _ rfl (setRow_heap _ _ _ _ _ _ a1) Tryd.underlying24 rfl hi) rfl ⟨rfl, below_setRow (unhide b1) (Nat.le_refl _) _⟩
    · have hd : decide (ds.length ≤ P) = false := by simpa using hlt
      have hZX := hide (hZ.below (unhide b1) (Nat.le_refl _))
      have hDX := hide (hD.below (unhide b1) (Nat.le_refl _))
      rw [est] at hlt' ⊢
      have cT := fun W => rnode2_calls _ _ hl1 hl2 W
      obtain ⟨D1, hD1⟩ : ∃ D, st ds k y = D := ⟨_, rfl⟩
      obtain ⟨D2, hD2⟩ : ∃ D, st ds k y1 = D := ⟨_, rfl⟩
      rw [hD1] at c1 hl1
      rw [hD2] at c2 hl2
      rw [hD1, hD2] at hlt' cT
      rw [hD1, hD2]
      obtain ⟨D3, hD3⟩ : ∃ D, pNode D1 D2 = D := ⟨_, rfl⟩
      rw [hD3] at hlt' cT
      rw [hD3]
      have hi1 := digInfo D1 hl1
      have hi2 := digInfo D2 hl2
      have hi3 := digInfo D3 hlt'
      have hz1 := zeroSize D1 hl1
      have hz2 := zeroSize D2 hl2
      have hz3 : Hid ((bc (List.replicate 32 (0 : UInt8))).size = (bc D3).size) := by show _ = _; rw [bc_size, bc_size, hlt']; rfl
      have ho3 := bc_oneCell D3
      have C1 := hide c1
      have C2 := hide c2
      have CT := hide cT
      clear hZ hD hD1 hD2 hD3 hlt c1 c2 cT hnz est ebeh hl1 hl2 hlt' hK hZk
      go_enter Tryd.func31, Tryd.ntmps31
      go_wp2_with fail
      refine (unhide cs _).mono ?_
      rintro e w2 ⟨rfl, hw2⟩
      have e2 : w2 = X := hw2.trans (unhide HX)
      clear hw2 HX
      subst e2
      go_wp2_with fail
      refine (unhide C1 _ (unhide hZX) (unhide hDX)).mono ?_
      rintro e w3 ⟨rfl, b3⟩
      have p0 := Below.at b3 (unhide zX) a1
      have bb := hide ((unhide b1).trans (b3.mono (Nat.le_of_lt (unhide zX))))
      have z3 := hide (Nat.lt_of_lt_of_le (unhide zX) b3.size)
      have dZ := hide ((unhide hZX).below b3 (Nat.le_refl _))
      have dD := hide ((unhide hDX).below b3 (Nat.le_refl _))
      have P0 := hide p0
      clear p0 b3 C1 a1 hZX hDX
      go_wp2_with (refine wpList_store_new rfl 24 (.tmp 11) (.tmp 37) rfl w3 _ _ D1 rfl rfl hi1 hz1 ?_; intro w4 q4 b4 y4; have P4 := hide (Below.at b4 (unhide z3) (unhide P0)); have bb4 := hide ((unhide bb).trans (b4.mono (Nat.le_of_lt (unhide z3)))); have dZ4 := hide ((unhide dZ).below b4 (Nat.le_refl _)); have dD4 := hide ((unhide dD).below b4 (Nat.le_refl _)); clear b4 P0 bb dZ dD)
      have Q4 := hide q4
      have z4 := hide (Array.getElem?_eq_some_iff.1 q4).1
      obtain ⟨G1, hG1⟩ : ∃ G, w3.heap.size = G := ⟨_, rfl⟩
      rw [hG1] at Q4 z4 z3
      simp only [hG1]
      clear q4 y4 hG1
      refine (unhide C2 _ (unhide dZ4) (unhide dD4)).mono ?_
      rintro e w5 ⟨rfl, b5⟩
      have z4' : w.heap.size < w4.heap.size := Nat.lt_trans (unhide z3) (unhide z4)
      have P5 := hide (Below.at b5 z4' (unhide P4))
      have Q5 := hide (Below.at b5 (unhide z4) (unhide Q4))
      have bb5 := hide ((unhide bb4).trans (b5.mono (Nat.le_of_lt z4')))
      have z5 := hide (Nat.lt_of_lt_of_le (unhide z4) b5.size)
      clear b5 z4' C2 dZ4 dD4 P4 Q4 bb4
      go_wp2_with (first
        | (refine wpList_store_new rfl 24 (.tmp 12) (.tmp 46) rfl w5 _ _ D2 rfl rfl hi2 hz2 ?_; intro w6 q6 b6 y6; have Q6 := hide (Below.at b6 (unhide z5) (unhide Q5)); have P6 := hide (Below.at b6 (Nat.lt_trans (unhide z3) (unhide z5)) (unhide P5)); have bb6 := hide ((unhide bb5).trans (b6.mono (Nat.le_of_lt (Nat.lt_trans (unhide z3) (unhide z5))))); clear b6 P5 Q5 bb5)
        | refine wpList_load_row rfl 24 (.tmp 11) rfl G1 rfl 24 _ (0, 0) _ (unhide Q6) Tryd.underlying24 rfl hi1 ?_
        | refine wpList_load_row rfl 24 (.tmp 12) rfl w5.heap.size rfl 24 _ (0, 0) _ q6 Tryd.underlying24 rfl hi2 ?_)
      have z6 : w.heap.size < w6.heap.size := Nat.lt_trans (Nat.lt_trans (unhide z3) (unhide z5)) (Array.getElem?_eq_some_iff.1 q6).1
      refine (unhide CT _).mono ?_
      rintro e w7 ⟨rfl, b7⟩
      have P7 := Below.at b7 z6 (unhide P6)
      have bb7 := (unhide bb6).trans (b7.mono (Nat.le_of_lt z6))
      clear b7 z6 P6 bb6 q6 y6 CT
      go_wp2_with (refine wpList_store_row rfl 24 (.tmp 10) (.tmp 50) rfl w.heap.size (bc D3) rfl rfl 24 _ P7 hi3 (unhide hz3) ho3 ?_)
      exact bodyPost_ret (results_cell_row rfl _ _ w.heap.size _ _ _ _ rfl (setRow_heap _ _ _ _ _ _ P7) Tryd.underlying24 rfl hi3) rfl ⟨rfl, below_setRow bb7 (Nat.le_refl _) _⟩
end Go.Proofs.YtkioomojdahjlaaDoor

namespace Go.Proofs.YtkioomojdahjlaaDoor
open Go Go.RowKit
set_option linter.unusedSimpArgs false
set_option linter.unusedVariables false

set_option maxHeartbeats 4000000 in
set_option maxRecDepth 100000 in
theorem rroot_calls (c : Nat) (hc : c < 4294967296) (L : List UInt8) (hL : L.length = 1024) (w : World) :
    Calls Tryd.prog 10 #[.pointer none, .agg (tr c L)] w fun e w' => e = .returned (.agg (bc (pTop c L 32))) ∧ Below w.heap.size w w' := by
  have hiT := treeInfo c L hL
  have A2 := hide (al2 w (.cells (tr c L) 27) (.cells (bc (List.replicate 32 0)) 24))
  have B2 := hide (bel2 w (.cells (tr c L) 27) (.cells (bc (List.replicate 32 0)) 24))
  have HL := hide hL
  have HTl := hide (pTop_length c L)
  have cN := hide fun w => rnoughts_calls w
  have cb := hide fun k (hk : k ≤ 40) w => rbit_calls c hc k hk w
  obtain ⟨X, hX⟩ : ∃ X, (w.alloc (.cells (tr c L) 27)).alloc (.cells (bc (List.replicate 32 0)) 24) = X := ⟨_, rfl⟩
  rw [hX] at A2 B2
  have HX := hide hX
  clear hX hL hc
  go_enter Tryd.func10, Tryd.ntmps10
  go_wp2_with fail
  refine (unhide cN _).mono ?_
  rintro e w2 ⟨⟨pz, cz, rfl, hcz, dZ⟩, b2'⟩
  have b2 : Below X.heap.size X w2 := by rw [← unhide HX]; exact b2'
  clear b2'
  have q0 := Below.at b2 (Array.getElem?_eq_some_iff.1 (unhide A2).1).1 (unhide A2).1
  have q1 := Below.at b2 (Array.getElem?_eq_some_iff.1 (unhide A2).2).1 (unhide A2).2
  have bb := (unhide B2).trans (b2.mono (unhide B2).size)
  have hz2 : w.heap.size + 1 < w2.heap.size := (Array.getElem?_eq_some_iff.1 q1).1
  have p0 := hide ((Below.heap_alloc w2 (.cells (bc (pNought 0)) 24) _ (by omega)).trans q0)
  have p1 := hide ((Below.heap_alloc w2 (.cells (bc (pNought 0)) 24) _ (by omega)).trans q1)
  have p2 := hide (al1 w2 (.cells (bc (pNought 0)) 24))
  have dZ2 := hide (dZ.below ((Below.refl _ w2).alloc (Nat.le_refl _) (.cells (bc (pNought 0)) 24)) (Nat.le_refl _))
  have bb2 := hide (bb.alloc (by omega) (.cells (bc (pNought 0)) 24))
  have dZ0 := hide dZ
  have bb0 := hide bb
  clear q0 q1 bb A2 B2 b2 dZ HX cN
  go_wp2
  obtain ⟨N, hN⟩ : ∃ N, w.heap.size = N := ⟨_, rfl⟩
  have HN := hide hN
  obtain ⟨G, hG⟩ : ∃ G, w2.heap.size = G := ⟨_, rfl⟩
  have HG := hide hG
  have hNG := hz2
  rw [hN, hG] at hNG
  have hNG := hide hNG
  clear hz2
  rw [hN] at p0 p1
  rw [hG] at p2
  go_loopw [7] (fun i wr => ∃ k : Nat, k ≤ 32 ∧ i = .int .i64 (k : Int) ∧ Below N w wr ∧ wr.heap[N]? = some (.cells (tr c L) 27 (0, 0)) ∧ wr.heap[N + 1]? = some (.cells (bc (List.replicate 32 0)) 24 (0, 0)) ∧ wr.heap[G]? = some (.cells (bc (pTop c L k)) 24 (0, 0)) ∧ Below G w2 wr) (fun i _ => 32 - (intOf i).toNat)
  case atStart =>
    refine ⟨0, by omega, rfl, ?_, unhide p0, unhide p1, unhide p2, ?_⟩
    · rw [← hN]; exact unhide bb2
    · rw [← hG]; exact (Below.refl _ w2).alloc (Nat.le_refl _) _
  case round =>
    obtain ⟨k, hk, rfl, hb, q0, q1, q2, hbG⟩ := hrel
    rw [hN, hG]
    clear p0 p1 p2 bb2 dZ2 bb0
    by_cases hlt : k < 32
    · have hd : decide ((k : Int) < 32) = true := by simp; omega
      obtain ⟨c0, f0⟩ := tr_cell q0
      have hTl := unhide HTl k
      have hT1l := unhide HTl (k + 1)
      have hiTp := digInfo _ hTl
      have hi1 := digInfo _ hT1l
      have ho1 := bc_oneCell (pTop c L (k + 1))
      have hz1 : (bc (pTop c L k)).size = (bc (pTop c L (k + 1))).size := by rw [bc_size, bc_size, hTl, hT1l]
      have hTe : pTop c L (k + 1) = if c / 2 ^ k % 2 = 1 then pNode (chk L k) (pTop c L k) else pNode (pTop c L k) (pNought k) := rfl
      have hz : G < wr.heap.size := (Array.getElem?_eq_some_iff.1 q2).1
      have b2 : (0 : Int) ≤ k ∧ (k : Int) < 32 := by omega
      have b3 : (0 : Int) ≤ k ∧ (k : Int) < 33 := by omega
      have hChl := chk_length L (unhide HL) k hlt
      have hr := tr_range q0 k
      have hNl := pNought_length k
      have cbk := unhide cb k (by omega) wr
      obtain ⟨bz, oz, epz, hltz, hcz'⟩ := (unhide dZ0).2 (by simp)
      have hrz := rangeAt_below (hcz' k (by simp; omega)) hbG (by rw [← unhide HG]; exact hltz)
      rw [noughts_at k (by omega)] at hrz
      have hbz : bz < wr.heap.size := by have := unhide HG; omega
      obtain ⟨B, hB⟩ : ∃ B, c / 2 ^ k % 2 = B := ⟨_, rfl⟩
      rw [hB] at hTe cbk
      obtain ⟨NO, hNO⟩ : ∃ P, pNought k = P := ⟨_, rfl⟩
      obtain ⟨T0, hT0⟩ : ∃ P, pTop c L k = P := ⟨_, rfl⟩
      obtain ⟨T1, hT1⟩ : ∃ P, pTop c L (k + 1) = P := ⟨_, rfl⟩
      obtain ⟨CH, hCH⟩ : ∃ P, chk L k = P := ⟨_, rfl⟩
      rw [hNO] at hTe hNl hrz
      rw [hT0] at hTe hTl hiTp hz1 q2
      rw [hT1] at hTe hT1l hi1 ho1 hz1
      rw [hCH] at hTe hChl hr
      have RM : Hid (∀ w', (∃ p : Regrown, w' = Sort.grow (redrawn wr p.d) p.os) → w'.rangeAt N (1 + k * 32) (Lib.byteCells CH)) := fun w' ⟨p, hp⟩ => by
        rw [hp]; exact rangeAt_below hr (below_regrown wr p.d p.os) (by have := unhide hNG; omega)
      have RZ : Hid (∀ w', (∃ p : Regrown, w' = Sort.grow (redrawn wr p.d) p.os) → w'.rangeAt bz (oz + k * 32) (Lib.byteCells NO)) := fun w' ⟨p, hp⟩ => by
        rw [hp]; exact rangeAt_below hrz (below_regrown wr p.d p.os) hbz
      have R2 : Hid (∀ w', (∃ p : Regrown, w' = Sort.grow (redrawn wr p.d) p.os) → w'.heap[G]? = some (.cells (bc T0) 24 (0, 0))) := fun w' ⟨p, hp⟩ => by
        rw [hp]; exact Below.at (below_regrown wr p.d p.os) hz q2
      have HT1 := hide hT1
      have HTe := hide hTe
      have HChl := hide hChl
      have HTl2 := hide hTl
      have HNl := hide hNl
      have Q0 := hide q0
      have Q1 := hide q1
      have Q2 := hide q2
      have HB := hide hb
      have HBG := hide hbG
      have Hk := hide hlt
      have Hz := hide hz
      have CB := hide cbk
      clear q0 q1 q2 hb hbG hlt hz hr hrz hcz' hltz hbz hChl hTe hT1 hNO hT0 hCH hTl hT1l hNl hB hk cbk
      subst epz
      by_cases hbit : B = 1
      case' pos =>
        have e1 := unhide HTe
        rw [if_pos hbit] at e1
        have kN : Hid (∀ dd os, Calls Tryd.prog 26 #[.pointer none, .int .u8 6, .agg (bc CH), .agg (bc T0)] (Sort.grow (redrawn wr dd) os) fun e w'' => e = .returned (.agg (bc T1)) ∧ ∃ p : Regrown, w'' = Sort.grow (redrawn wr p.d) p.os) := fun dd os => by
          rw [e1]; exact Calls.regrown_of (rnode2_calls CH T0 (unhide HChl) (unhide HTl2) _)
        have CB := unhide CB
        rw [decide_eq_true hbit] at CB
        have CB := hide CB
        clear e1 hbit RZ
        go_wp2_with fail
        refine (unhide CB).mono ?_
        rintro e w9 ⟨rfl, hw9⟩
        rw [hw9]
        clear hw9 CB
        go_wp2_with fail
        refine wp_region_below_tail 7 mixed (by kernel_rfl) ?_
        simp only [List.take_succ_cons, List.take_zero, List.drop_succ_cons, List.drop_zero]
        quiet_step (fail)
        quiet_step (fail)
        quiet_step (fail)
        quiet_step (fail)
        refine wpQuiet_load_mid rfl 24 (.tmp 21) rfl N (1 + k * 32) rfl (Lib.byteCells CH) _ (unhide RM) Tryd.underlying24 rfl (by rw [Lib.byteCells_length, unhide HChl]; kernel_rfl) ?_
        refine wpQuiet_load_row rfl 24 (.tmp 6) rfl G rfl 24 _ (0, 0) _ (unhide R2) Tryd.underlying24 rfl hiTp ?_
        quiet_step (exact unhide kN _ _)
        refine wpQuiet_nil ?_
        intro w5 hb5
        have p0 := hide (Below.at hb5 (by have := unhide Hz; have := unhide hNG; omega) (unhide Q0))
        have p1 := hide (Below.at hb5 (by have := unhide Hz; have := unhide hNG; omega) (unhide Q1))
        have p2 := hide (Below.at hb5 (unhide Hz) (unhide Q2))
        have BB := hide ((unhide HB).trans (hb5.mono (by have := unhide Hz; have := unhide hNG; omega)))
        have BG := hide ((unhide HBG).trans (hb5.mono (by have := unhide Hz; omega)))
        clear hb5
        refine wpList_store_row rfl 24 (.tmp 6) (.tmp 24) rfl G _ rfl rfl 24 _ (unhide p2) hi1 hz1 ho1 ?_
      case' neg =>
        have e1 := unhide HTe
        rw [if_neg hbit] at e1
        have kN : Hid (∀ dd os, Calls Tryd.prog 26 #[.pointer none, .int .u8 6, .agg (bc T0), .agg (bc NO)] (Sort.grow (redrawn wr dd) os) fun e w'' => e = .returned (.agg (bc T1)) ∧ ∃ p : Regrown, w'' = Sort.grow (redrawn wr p.d) p.os) := fun dd os => by
          rw [e1]; exact Calls.regrown_of (rnode2_calls T0 NO (unhide HTl2) (unhide HNl) _)
        have CB := unhide CB
        rw [decide_eq_false hbit] at CB
        have CB := hide CB
        clear e1 hbit RM
        go_wp2_with fail
        refine (unhide CB).mono ?_
        rintro e w9 ⟨rfl, hw9⟩
        rw [hw9]
        clear hw9 CB
        go_wp2_with fail
        refine wp_region_below_tail 7 mixed (by kernel_rfl) ?_
        simp only [List.take_succ_cons, List.take_zero, List.drop_succ_cons, List.drop_zero]
        quiet_step (fail)
        refine wpQuiet_load_row rfl 24 (.tmp 6) rfl G rfl 24 _ (0, 0) _ (unhide R2) Tryd.underlying24 rfl hiTp ?_
        quiet_step (fail)
        quiet_step (fail)
        quiet_step (fail)
        refine wpQuiet_load_mid rfl 24 (.tmp 29) rfl bz (oz + k * 32) rfl (Lib.byteCells NO) _ (unhide RZ) Tryd.underlying24 rfl (by rw [Lib.byteCells_length, unhide HNl]; kernel_rfl) ?_
        quiet_step (exact unhide kN _ _)
        refine wpQuiet_nil ?_
        intro w5 hb5
        have p0 := hide (Below.at hb5 (by have := unhide Hz; have := unhide hNG; omega) (unhide Q0))
        have p1 := hide (Below.at hb5 (by have := unhide Hz; have := unhide hNG; omega) (unhide Q1))
        have p2 := hide (Below.at hb5 (unhide Hz) (unhide Q2))
        have BB := hide ((unhide HB).trans (hb5.mono (by have := unhide Hz; have := unhide hNG; omega)))
        have BG := hide ((unhide HBG).trans (hb5.mono (by have := unhide Hz; omega)))
        clear hb5
        refine wpList_store_row rfl 24 (.tmp 6) (.tmp 31) rfl G _ rfl rfl 24 _ (unhide p2) hi1 hz1 ho1 ?_
      all_goals
        go_wp2
        refine ⟨⟨k + 1, by have := unhide Hk; omega, by go_num, below_setRow (unhide BB) (by have := unhide hNG; omega) _, ?_, ?_, ?_, below_setRow (unhide BG) (Nat.le_refl _) _⟩, by have := unhide Hk; simp [intOf]; omega⟩
        · rw [setRow_other _ _ _ _ (by have := unhide hNG; omega)]; exact unhide p0
        · rw [setRow_other _ _ _ _ (by have := unhide hNG; omega)]; exact unhide p1
        · rw [unhide HT1]; exact setRow_heap _ _ _ _ _ _ (unhide p2)
    · have hd : decide ((k : Int) < 32) = false := by simp; omega
      obtain rfl : k = 32 := by omega
      have hTl := unhide HTl 32
      have hi := digInfo _ hTl
      have hz := zeroSize _ hTl
      have ho := bc_oneCell (pTop c L 32)
      obtain ⟨T, hT⟩ : ∃ T, pTop c L 32 = T := ⟨_, rfl⟩
      have HTf := hide hT
      rw [hT] at hi hz ho q2
      have Q1 := hide q1
      have Q2 := hide q2
      have HB := hide hb
      clear q0 q1 q2 hb hbG hlt hTl hT
      go_wp2_with (first
        | refine wpList_load_row rfl 24 (.tmp 6) rfl G rfl 24 _ (0, 0) _ (unhide Q2) Tryd.underlying24 rfl hi ?_
        | refine wpList_store_row rfl 24 (.tmp 4) (.tmp 32) rfl (N + 1) _ rfl rfl 24 _ (unhide Q1) hi hz ho ?_)
      exact bodyPost_ret (results_cell_row rfl _ _ (N + 1) _ _ _ _ rfl (setRow_heap _ _ _ _ _ _ (unhide Q1)) Tryd.underlying24 rfl hi) rfl ⟨by rw [unhide HTf], by rw [unhide HN]; exact below_setRow (unhide HB) (by omega) _⟩
end Go.Proofs.YtkioomojdahjlaaDoor

namespace Go.Proofs.YtkioomojdahjlaaDoor
open Go Go.RowKit
set_option linter.unusedSimpArgs false
set_option linter.unusedVariables false

set_option maxHeartbeats 4000000 in
set_option maxRecDepth 100000 in
theorem keep_calls (ds : List (List UInt8)) (p : Option Addr) (cap : Nat) (hcap : ds.length ≤ cap) (hlen : ds.length ≤ 100000000) (w : World) (hD : DL w p ds) (tabs : Tabs w) :
    Calls Tryd.prog 15 #[.pointer none, .slice p ds.length cap] w fun e w' => (∃ L, KeptBy (ds.take 4096) L ∧ e = .returned (.agg (tr (ds.take 4096).length L))) ∧ Below w.heap.size w w' := by
  have cf := fun w => mfirst_calls p ds.length cap hcap (by omega) w
  have htk : min ds.length 4096 = (ds.take 4096).length := by simp; omega
  rw [htk] at cf
  have hlen' : (ds.take 4096).length ≤ 4096 := by simp; omega
  have hD' := hD.take 4096
  generalize ds.take 4096 = es at *
  have A2 := al2 w (.cells (tr 0 (List.replicate 1024 0)) 27) (.cells (tr 0 (List.replicate 1024 0)) 27)
  have B2 := bel2 w (.cells (tr 0 (List.replicate 1024 0)) 27) (.cells (tr 0 (List.replicate 1024 0)) 27)
  rw [← zeroTree] at A2 B2
  obtain ⟨X, hX⟩ : ∃ X, (w.alloc (.cells Tryd.zeroCells27 27)).alloc (.cells Tryd.zeroCells27 27) = X := ⟨_, rfl⟩
  rw [hX, zeroTree] at A2
  rw [hX] at B2
  have AX := hide A2
  have BX := hide B2
  have HD := hide hD'
  have HT := hide tabs
  have Hlen := hide hlen'
  have CF := hide cf
  clear hD hD' tabs hlen hcap cf hlen' htk A2 B2
  go_enter Tryd.func15, Tryd.ntmps15
  go_wp2_with (rw [hX])
  refine (unhide CF _).mono ?_
  rintro e w1 ⟨rfl, hw1⟩
  subst hw1
  go_wp2
  obtain ⟨N, hN⟩ : ∃ N, w.heap.size = N := ⟨_, rfl⟩
  have HN := hide hN
  clear hX
  go_loopw [11] (fun i wr => ∃ k : Nat, k ≤ es.length ∧ i = .int .i64 (k : Int) ∧ Below N w wr ∧ wr.heap[N]? = some (.cells (tr 0 (List.replicate 1024 0)) 27 (0, 0)) ∧ ∃ L, KeptBy (es.take k) L ∧ wr.heap[N + 1]? = some (.cells (tr k L) 27 (0, 0))) (fun i _ => es.length - (intOf i).toNat)
  case atStart =>
    subst hN
    exact ⟨0, by omega, rfl, unhide BX, (unhide AX).1, _, by rw [List.take_zero]; exact .nil, (unhide AX).2⟩
  case round =>
    obtain ⟨k, hk, rfl, hb, q0, L, hkept, q1⟩ := hrel
    rw [hN]
    clear AX BX
    by_cases hlt : k < es.length
    · have hd : decide (k < es.length) = true := by simpa using hlt
      have hD0 := unhide HD
      obtain ⟨b, off, rfl, hlt2, hc⟩ := hD0.2 (by intro h; rw [h] at hlt; simp at hlt)
      have hr := rangeAt_below (hc _ hlt) hb (by rw [← hN]; exact hlt2)
      have hEl := hD0.len _ hlt
      have htake : es.take (k + 1) = es.take k ++ [es.getD k []] := by rw [List.take_add_one]; simp [List.getD, hlt]
      have htl : (es.take k).length = k := by simp; omega
      obtain ⟨E, hE⟩ : ∃ E, es.getD k [] = E := ⟨_, rfl⟩
      rw [hE] at hr hEl htake
      have hz : N + 1 < wr.heap.size := (Array.getElem?_eq_some_iff.1 q1).1
      have hiT := treeInfo k L hkept.kept.len
      have hiE := digInfo E hEl
      have hzE := zeroSize E hEl
      have CI := hide (fun W tb => insert_calls k (by have := unhide Hlen; omega) L E hkept.kept.len hEl W tb)
      have HK := hide hkept
      have HTk := hide htake
      have HTl := hide htl
      have HEl := hide hEl
      have HR := hide hr
      have Q0 := hide q0
      have Q1 := hide q1
      have HB := hide hb
      have Hk := hide hlt
      have Hz := hide hz
      have b1 : (0 : Int) ≤ k ∧ (k : Int) < es.length := by omega
      have b3 : k ≤ 4096 := by have := unhide Hlen; omega
      clear q0 q1 hb hlt hz hr hEl htake htl hE hc hlt2 hD0 hkept hk
      go_wp2_with (first
        | refine wpList_load_mid rfl 24 (.tmp 13) rfl b (off + k * 32) rfl (Lib.byteCells E) _ (unhide HR) Tryd.underlying24 rfl (by rw [Lib.byteCells_length, unhide HEl]; kernel_rfl) ?_
        | (refine wpList_store_new rfl 24 (.tmp 7) (.tmp 14) rfl wr _ _ E rfl rfl hiE hzE ?_
           intro W2 q2 hb2 z2
           have S2 := hide q2
           have S1 := hide (Below.at hb2 (unhide Hz) (unhide Q1))
           have S0 := hide (Below.at hb2 (by have := unhide Hz; omega) (unhide Q0))
           have BW := hide ((unhide HB).trans (hb2.mono (by have := unhide Hz; omega)))
           have ZW := hide z2
           clear q2 hb2 z2)
        | refine wpList_load_row rfl 27 (.tmp 5) rfl (N + 1) rfl 27 _ (0, 0) _ (unhide S1) Tryd.underlying27 rfl hiT ?_
        | refine wpList_load_row rfl 24 (.tmp 7) rfl wr.heap.size rfl 24 _ (0, 0) _ (unhide S2) Tryd.underlying24 rfl hiE ?_)
      refine (unhide CI _ ((unhide HT).below (unhide BW) (by rw [unhide HN]; exact Nat.le_refl _))).mono ?_
      rintro e w3 ⟨⟨l, hlow, hl12, rfl⟩, hb3⟩
      have p0 := hide (Below.at hb3 (by have := unhide Hz; have := unhide ZW; omega) (unhide S0))
      have p1 := hide (Below.at hb3 (by have := unhide Hz; have := unhide ZW; omega) (unhide S1))
      have BB := hide ((unhide BW).trans (hb3.mono (by have := unhide Hz; have := unhide ZW; omega)))
      have hK2 : KeptBy (es.take (k + 1)) (putAt L (l * 32) (pPart L E l)) := by
        rw [unhide HTk]
        exact .snoc _ _ _ _ (unhide HK) (unhide HEl) (by rw [unhide HTl]; exact hlow) hl12
      obtain ⟨L2, hL2⟩ : ∃ L2, putAt L (l * 32) (pPart L E l) = L2 := ⟨_, rfl⟩
      rw [hL2] at hK2 ⊢
      have hi2 := treeInfo (k + 1) L2 hK2.kept.len
      have ho2 := tr_one (k + 1) L2
      have hz2 : (tr k L).size = (tr (k + 1) L2).size := by rw [tr_size, tr_size, hK2.kept.len, (unhide HK).kept.len]
      have HK2 := hide hK2
      clear hK2 hL2 hlow hl12 hb3
      go_wp2_with (refine wpList_store_row rfl 27 (.tmp 5) (.tmp 20) rfl (N + 1) _ rfl rfl 27 _ (unhide p1) hi2 hz2 ho2 ?_)
      refine ⟨⟨k + 1, by have := unhide Hk; omega, by go_num, below_setRow (unhide BB) (by omega) _, ?_, L2, unhide HK2, setRow_heap _ _ _ _ _ _ (unhide p1)⟩, by have := unhide Hk; simp [intOf]; omega⟩
      rw [setRow_other _ _ _ _ (by omega)]; exact unhide p0
    · have hd : decide (k < es.length) = false := by simpa using hlt
      have hkl : k = es.length := by omega
      rw [hkl] at q1 hkept
      rw [List.take_length] at hkept
      have hiT := treeInfo es.length L hkept.kept.len
      have hoT := tr_one es.length L
      have hzT : (tr 0 (List.replicate 1024 0)).size = (tr es.length L).size := by rw [tr_size, tr_size, hkept.kept.len]; rfl
      have HK := hide hkept
      have Q0 := hide q0
      have Q1 := hide q1
      have HB := hide hb
      clear q0 q1 hb hkl hlt hkept
      go_wp2_with (first
        | refine wpList_load_row rfl 27 (.tmp 5) rfl (N + 1) rfl 27 _ (0, 0) _ (unhide Q1) Tryd.underlying27 rfl hiT ?_
        | refine wpList_store_row rfl 27 (.tmp 4) (.tmp 23) rfl N _ rfl rfl 27 _ (unhide Q0) hiT hzT hoT ?_)
      exact bodyPost_ret (results_cell_row rfl _ _ N _ _ _ _ rfl (setRow_heap _ _ _ _ _ _ (unhide Q0)) Tryd.underlying27 rfl hiT) rfl ⟨⟨L, unhide HK, rfl⟩, by rw [unhide HN]; exact below_setRow (unhide HB) (Nat.le_refl _) _⟩
end Go.Proofs.YtkioomojdahjlaaDoor

namespace Go.Proofs.YtkioomojdahjlaaDoor
open Go Go.RowKit
set_option linter.unusedSimpArgs false
set_option linter.unusedVariables false

theorem branches_lits (L : List UInt8) (hL : L.length = 1024) : ∃ la, Tryd.prog.keyLits 3 25 (Lib.byteCells L) = some la := by
  have hc : Tryd.prog.cellsOf 24 = 32 := by kernel_rfl
  have hct : Tryd.prog.cellsOf 25 = 1024 := by kernel_rfl
  unfold Program.keyLits
  simp only [Tryd.underlying25]
  rw [if_pos (by rw [Lib.byteCells_length, hL, hct])]
  rw [mapM_some _ (fun i => ((chk L i).map fun b => (b.toNat : Int)).map (Lit.int .u8)) _ (fun i hi => ?_)]
  · exact ⟨_, rfl⟩
  · have hi' : i < 32 := List.mem_range.1 hi
    have e : ((Lib.byteCells L).drop (i * Tryd.prog.cellsOf 24)).take (Tryd.prog.cellsOf 24) = (bc (chk L i)).toList := by
      rw [hc]; unfold chk bc Lib.byteCells; simp [List.map_take, List.map_drop]
    rw [e]
    exact dig_lits (chk L i) (chk_length L hL i hi')
theorem tree_lits (n : Nat) (hn : n < 4294967296) (L : List UInt8) (hL : L.length = 1024) : ∃ la, Tryd.prog.keyLits 4 27 (tr n L).toList = some la := by
  obtain ⟨lb, hb⟩ := branches_lits L hL
  have h1 : Tryd.prog.cellsOf 22 = 1 := by kernel_rfl
  have h2 : Tryd.prog.cellsOf 25 = 1024 := by kernel_rfl
  have h3 : Tryd.prog.cellsOf 27 = 1025 := by kernel_rfl
  have hcount : Tryd.prog.keyLits 3 22 [.int .u32 (n : Int)] = some [.int .u32 (n : Int)] := by
    unfold Program.keyLits
    simp only [Tryd.underlying22]
    rw [if_pos ⟨trivial, by simp [Lit.wf, IntKind.min, IntKind.max, IntKind.signed, IntKind.bits]; omega⟩]
  unfold Program.keyLits
  simp only [Tryd.underlying27]
  rw [if_pos ⟨by rw [h3]; simp [tr, Lib.byteCells_length, hL], by kernel_rfl⟩]
  have e2 : ((tr n L).toList.drop 1).take (Tryd.prog.cellsOf 25) = Lib.byteCells L := by
    rw [h2]; simp [tr]; exact List.take_of_length_le (by rw [Lib.byteCells_length, hL]; exact Nat.le_refl _)
  have e1 : ((tr n L).toList.drop 0).take (Tryd.prog.cellsOf 22) = [.int .u32 (n : Int)] := by rw [h1]; simp [tr]
  simp only [List.mapM_cons, List.mapM_nil, e1, e2, hcount, hb]
  exact ⟨_, rfl⟩
theorem tree_eql (n : Nat) (hn : n < 4294967296) (L : List UInt8) (hL : L.length = 1024) (w : World) : (binOp .eql 27 (.agg (tr n L)) (.agg (tr n L))).run Tryd.prog w = .ok (.bool true) w := by
  obtain ⟨la, hla⟩ := tree_lits n hn L hL
  refine eql_refl 27 4 4 (by omega) (by kernel_rfl) _ ?_ la hla w
  simp only [Value.formed, Tryd.underlying27, tr_size, hL]; kernel_rfl
end Go.Proofs.YtkioomojdahjlaaDoor

namespace Go.Proofs.YtkioomojdahjlaaDoor
open Go.RowKit
set_option linter.unusedSimpArgs false
set_option linter.unusedVariables false

theorem wpList_store_newV {P : Program} {ops : Array Oper} {rest : List Oper} {op : Oper} {a : Act} {Q : Exit → Act → World → Prop} (hgd : op.guard = none) (ty : TypeId) (x y : Operand) (ho : op.op = .store ty x y)
    (W0 : World) (Z : Array Value) (t : TypeId) (D : Array Value) (hx : a.eval x = .pointer (some ⟨W0.heap.size, 0, none⟩)) (hy : a.eval y = .agg D)
    (hi : (P.info? ty).map (·.size) = some D.size) (hz : Z.size = D.size) (h1 : D.all (·.oneCell') = true)
    (h : ∀ w', w'.heap[W0.heap.size]? = some (.cells D t (0, 0)) → Below W0.heap.size W0 w' → w'.heap.size = W0.heap.size + 1 → wpList P ops Q rest (a.put op.dst undef) w') :
    wpList P ops Q (op :: rest) a (W0.alloc (.cells Z t)) := by
  refine wpList_store_row hgd ty x y ho W0.heap.size D hx hy t Z (al1 _ _) hi hz h1 ?_
  exact h _ (setRow_heap _ _ _ _ _ _ (al1 W0 (.cells Z t))) (below_setRow ((Below.refl _ _).alloc (Nat.le_refl _) _) (Nat.le_refl _) _) (by rw [setRow_size, World.size_alloc])
end Go.Proofs.YtkioomojdahjlaaDoor

namespace Go.Proofs.YtkioomojdahjlaaDoor
open Go Go.RowKit
set_option linter.unusedSimpArgs false
set_option linter.unusedVariables false

theorem low_exists : ∀ (m : Nat), 0 < m → ∃ k, Low m k := by
  intro m
  induction m using Nat.strongRecOn with
  | _ m ih =>
    intro hm
    by_cases h : m % 2 = 1
    · exact ⟨0, by simpa using h, fun j hj => by omega⟩
    · obtain ⟨k, h1, h2⟩ := ih (m / 2) (by omega) (by omega)
      have e : ∀ j, m / 2 ^ (j + 1) = m / 2 / 2 ^ j := fun j => by rw [Nat.pow_succ, Nat.mul_comm, Nat.div_div_eq_div_mul]
      refine ⟨k + 1, by rw [e]; exact h1, fun j hj => ?_⟩
      cases j with
      | zero => simp; omega
      | succ j => rw [e]; exact h2 j (by omega)
/-- What both answer. -/
theorem insert_any (c : Nat) (hc : c < 4294967296) (L leaf : List UInt8) (hL : L.length = 1024) (hl : leaf.length = 32) :
    ∃ (c' : Nat) (L' : List UInt8) (E : Int), c' < 4294967296 ∧ L'.length = 1024 ∧
      (∀ w, Tabs w → Calls Tryd.prog 7 #[.pointer none, .agg (tr c L), .agg (bc leaf)] w fun e w' => e = .returned (.tuple #[.agg (tr c' L'), .int .i64 E]) ∧ Below w.heap.size w w') ∧
      (∀ w, Calls Tryd.prog 8 #[.pointer none, .agg (tr c L), .agg (bc leaf)] w fun e w' => e = .returned (.tuple #[.agg (tr c' L'), .int .i64 E]) ∧ Below w.heap.size w w') := by
  by_cases hm : 4096 ≤ c
  · exact ⟨c, L, 6, hc, hL, fun w _ => insert_many c hc hm L leaf hL hl w, fun w => rinsert_many c hc hm L leaf hL hl w⟩
  · obtain ⟨k, hk⟩ := low_exists (c + 1) (by omega)
    have hk12 := low_le (c + 1) k (by omega) (by omega) hk.2
    have hPl := pPart_length L leaf hl k
    refine ⟨c + 1, putAt L (k * 32) (pPart L leaf k), 0, by omega, ?_, fun w t => ?_, fun w => ?_⟩
    · rw [putAt_length _ _ _ (by rw [hPl, hL]; omega)]; exact hL
    · refine (insert_calls c (by omega) L leaf hL hl w t).mono ?_
      rintro e w' ⟨⟨k', hk', _, rfl⟩, b⟩
      obtain rfl := low_unique hk hk'
      exact ⟨rfl, b⟩
    · refine (rinsert_calls c (by omega) L leaf hL hl w).mono ?_
      rintro e w' ⟨⟨k', hk', _, rfl⟩, b⟩
      obtain rfl := low_unique hk hk'
      exact ⟨rfl, b⟩
set_option maxHeartbeats 4000000 in
set_option maxRecDepth 100000 in
theorem merkleKeeps_walk (c : Nat) (hc : c < 4294967296) (L leaf : List UInt8) (hL : L.length = 1024) (hl : leaf.length = 32) (x : Int) (w : World) (tabs : Tabs w) :
    Calls Tryd.prog 3 #[.agg (tr c L), .agg (bc leaf), .int .i64 x] w fun e w' => e = .returned (.bool true) ∧ Below w.heap.size w w' := by
  have A := hide fun W t => mawake_calls W t
  obtain ⟨c', L', E, hc', hL', ci, cj⟩ := insert_any c hc L leaf hL hl
  have CI := hide ci
  have CJ := hide cj
  have iT := treeInfo c L hL
  have iT' := treeInfo c' L' hL'
  have oT' := tr_one c' L'
  have zT' : Hid ((Tryd.zeroCells27).size = (tr c' L').size) := hide (by rw [zeroTree, tr_size, tr_size, hL']; rfl)
  have il := digInfo leaf hl
  have eT := hide fun W => tree_eql c' hc' L' hL' W
  have CR := hide fun W t => root_calls c hc L hL W t
  have CS := hide fun W => rroot_calls c hc L hL W
  have CN := hide fun W t => nought_calls x W t
  have CM := hide fun W => rnought_calls x W
  have eR := hide (dig_refl _ (pTop_length c L 32))
  have eN := hide (dig_refl _ (pNought_length (if x < 0 ∨ 32 < x then 0 else x.toNat)))
  have A2 := hide (al2 w (.cells (tr c L) 27) (.cells (bc leaf) 24))
  have B2 := hide (bel2 w (.cells (tr c L) 27) (.cells (bc leaf) 24))
  generalize pTop c L 32 = RO at *
  generalize pNought (if x < 0 ∨ 32 < x then 0 else x.toNat) = NO at *
  obtain ⟨X, hX⟩ : ∃ X, (w.alloc (.cells (tr c L) 27)).alloc (.cells (bc leaf) 24) = X := ⟨_, rfl⟩
  rw [hX] at A2 B2
  have HX := hide hX
  have HT := hide tabs
  have tX := hide (tabs.below (unhide B2) (Nat.le_refl _))
  obtain ⟨T0, hT0⟩ : ∃ T, tr c L = T := ⟨_, rfl⟩
  obtain ⟨T1, hT1⟩ : ∃ T, tr c' L' = T := ⟨_, rfl⟩
  rw [hT0] at CI CJ CR CS A2 HX iT
  rw [hT1] at CI CJ iT' oT' zT' eT
  rw [hT0]
  clear hT0 hT1 hX hL hl hL' hc hc' ci cj tabs
  go_enter Tryd.func3, Tryd.ntmps3
  go_wp2_with (rw [unhide HX])
  refine (unhide A _ (unhide tX)).mono ?_
  rintro e w1 ⟨rfl, b1⟩
  have bW1 := (unhide B2).trans (b1.mono (unhide B2).size)
  have q1 := Below.at b1 (Array.getElem?_eq_some_iff.1 (unhide A2).1).1 (unhide A2).1
  have r1 := Below.at b1 (Array.getElem?_eq_some_iff.1 (unhide A2).2).1 (unhide A2).2
  clear b1 A2 B2 tX HX
  go_wp2_with (first
    | (refine wpList_load_row rfl 27 (.tmp 3) rfl w.heap.size rfl 27 T0 (0, 0) _ q1 Tryd.underlying27 rfl iT ?_)
    | (refine wpList_load_row rfl 24 (.tmp 4) rfl (w.heap.size + 1) rfl 24 _ (0, 0) _ r1 Tryd.underlying24 rfl il ?_))
  refine (unhide CI _ ((unhide HT).below bW1 (Nat.le_refl _))).mono ?_
  rintro e w2 ⟨rfl, b2⟩
  have bW2 := bW1.trans (b2.mono bW1.size)
  have q2 := Below.at b2 (Array.getElem?_eq_some_iff.1 q1).1 q1
  have r2 := Below.at b2 (Array.getElem?_eq_some_iff.1 r1).1 r1
  have zq2 := hide (Array.getElem?_eq_some_iff.1 q2).1
  have zr2 := hide (Array.getElem?_eq_some_iff.1 r2).1
  clear b2 q1 r1 bW1
  go_wp2_with (first
    | (refine wpList_store_newV rfl 27 (.tmp 7) (.tmp 17) rfl w2 _ _ T1 rfl rfl iT' (show _ = T1.size from unhide zT') oT' ?_; intro w3 s3 b3 z3; have q3 := Below.at b3 (unhide zq2) q2; have r3 := Below.at b3 (unhide zr2) r2)
    | (refine wpList_load_row rfl 27 (.tmp 3) rfl w.heap.size rfl 27 T0 (0, 0) _ q3 Tryd.underlying27 rfl iT ?_)
    | (refine wpList_load_row rfl 24 (.tmp 4) rfl (w.heap.size + 1) rfl 24 _ (0, 0) _ r3 Tryd.underlying24 rfl il ?_))
  have bW3 := bW2.trans (b3.mono bW2.size)
  obtain ⟨G1, hG1⟩ : ∃ G, w2.heap.size = G := ⟨_, rfl⟩
  rw [hG1] at s3
  simp only [hG1]
  clear q2 r2 bW2 b3 z3 hG1 zq2 zr2
  refine (unhide CJ _).mono ?_
  rintro e w4 ⟨rfl, b4⟩
  have bW4 := bW3.trans (b4.mono bW3.size)
  have q4 := Below.at b4 (Array.getElem?_eq_some_iff.1 q3).1 q3
  have s4 := Below.at b4 (Array.getElem?_eq_some_iff.1 s3).1 s3
  clear b4 q3 r3 s3 bW3
  go_wp2_with (refine wpList_store_newV rfl 27 (.tmp 9) (.tmp 23) rfl w4 _ _ T1 rfl rfl iT' (show _ = T1.size from unhide zT') oT' ?_; intro Z u5 b5 z5)
  have bZ := bW4.trans (b5.mono bW4.size)
  have q5 := Below.at b5 (Array.getElem?_eq_some_iff.1 q4).1 q4
  have s5 := Below.at b5 (Array.getElem?_eq_some_iff.1 s4).1 s4
  obtain ⟨G2, hG2⟩ : ∃ G, w4.heap.size = G := ⟨_, rfl⟩
  rw [hG2] at u5
  simp only [hG2]
  have RX : Hid (∀ w', (∃ p : Regrown, w' = Sort.grow (redrawn Z p.d) p.os) → w'.heap[w.heap.size]? = some (.cells T0 27 (0, 0))) := fun w' ⟨p, hp⟩ => by rw [hp]; exact Below.at (below_regrown Z p.d p.os) (Array.getElem?_eq_some_iff.1 q5).1 q5
  have R1 : Hid (∀ w', (∃ p : Regrown, w' = Sort.grow (redrawn Z p.d) p.os) → w'.heap[G1]? = some (.cells T1 27 (0, 0))) := fun w' ⟨p, hp⟩ => by rw [hp]; exact Below.at (below_regrown Z p.d p.os) (Array.getElem?_eq_some_iff.1 s5).1 s5
  have R2 : Hid (∀ w', (∃ p : Regrown, w' = Sort.grow (redrawn Z p.d) p.os) → w'.heap[G2]? = some (.cells T1 27 (0, 0))) := fun w' ⟨p, hp⟩ => by rw [hp]; exact Below.at (below_regrown Z p.d p.os) (Array.getElem?_eq_some_iff.1 u5).1 u5
  have BZ : Hid (∀ d os, Below w.heap.size w (Sort.grow (redrawn Z d) os)) := fun d os => bZ.trans ((below_regrown Z d os).mono bZ.size)
  have kA := hide fun d os => Calls.regrown_of (w := Z) (d := d) (os := os) (unhide A _ ((unhide HT).below (unhide BZ d os) (Nat.le_refl _)))
  have kR := hide fun d os => Calls.regrown_of (w := Z) (d := d) (os := os) (unhide CR _ ((unhide HT).below (unhide BZ d os) (Nat.le_refl _)))
  have kS := hide fun d os => Calls.regrown_of (w := Z) (d := d) (os := os) (unhide CS _)
  have kN := hide fun d os => Calls.regrown_of (w := Z) (d := d) (os := os) (unhide CN _ ((unhide HT).below (unhide BZ d os) (Nat.le_refl _)))
  have kM := hide fun d os => Calls.regrown_of (w := Z) (d := d) (os := os) (unhide CM _)
  clear q4 s4 bW4 b5 z5 hG2 q5 s5 u5 CI CJ CR CS CN CM
  go_wp2_with fail
  refine wp_region_below mixed (by kernel_rfl) ?_
  quiet_step (exact unhide kA _ _)
  go_big_quiet_step (fail)
  refine wpQuiet_load_row rfl 27 (.tmp 7) rfl G1 rfl 27 T1 (0, 0) _ (unhide R1) Tryd.underlying27 rfl iT' ?_
  refine wpQuiet_load_row rfl 27 (.tmp 9) rfl G2 rfl 27 T1 (0, 0) _ (unhide R2) Tryd.underlying27 rfl iT' ?_
  refine wpQuiet_eql rfl 27 27 (.tmp 27) (.tmp 28) rfl _ _ rfl rfl (by kernel_rfl) true (unhide eT) ?_
  quiet_step (fail)
  go_big_quiet_step (fail)
  go_big_quiet_step (fail)
  go_big_quiet_step (fail)
  go_big_quiet_step (fail)
  go_big_quiet_step (fail)
  go_big_quiet_step (fail)
  refine wpQuiet_load_row rfl 27 (.tmp 3) rfl w.heap.size rfl 27 T0 (0, 0) _ (unhide RX) Tryd.underlying27 rfl iT ?_
  quiet_step (exact unhide kR _ _)
  refine wpQuiet_load_row rfl 27 (.tmp 3) rfl w.heap.size rfl 27 T0 (0, 0) _ (unhide RX) Tryd.underlying27 rfl iT ?_
  quiet_step (exact unhide kS _ _)
  refine wpQuiet_eql rfl 24 24 (.tmp 38) (.tmp 40) rfl _ _ rfl rfl (by kernel_rfl) true (unhide eR) ?_
  quiet_step (fail)
  go_big_quiet_step (fail)
  go_big_quiet_step (fail)
  quiet_step (exact unhide kN _ _)
  go_big_quiet_step (fail)
  quiet_step (exact unhide kM _ _)
  refine wpQuiet_eql rfl 24 24 (.tmp 45) (.tmp 47) rfl _ _ rfl rfl (by kernel_rfl) true (unhide eN) ?_
  quiet_step (fail)
  repeat (go_big_quiet_step (fail))
  refine wpQuiet_nil ?_
  intro V hbV
  go_wp2
  go_ret
  exact ⟨rfl, bZ.trans (hbV.mono bZ.size)⟩
end Go.Proofs.YtkioomojdahjlaaDoor

namespace Go.Proofs.YtkioomojdahjlaaDoor
open Go.ChangeShapes Go.WideShapes Go.ChangeAt Go.RowKit

theorem shaOwn : ownKnob Tryd.prog.godebug = none := by kernel_rfl
theorem shaLaidOut : laidOutB Tryd.prog = true := by kernel_rfl
theorem gFirst : Tryd.prog.globalNamed "pontoon/sha.firstWords" = some 0 := by kernel_rfl
theorem gFirstType : (Tryd.prog.globals[0]?).map (·.type) = some 77 := by kernel_rfl
theorem gRound : Tryd.prog.globalNamed "pontoon/sha.roundWords" = some 1 := by kernel_rfl
theorem gRoundType : (Tryd.prog.globals[1]?).map (·.type) = some 114 := by kernel_rfl
theorem cells64 : Tryd.prog.cellsOf 114 = 64 := by kernel_rfl
theorem cells8 : Tryd.prog.cellsOf 77 = 8 := by kernel_rfl
theorem cellsW : Tryd.prog.cellsOf 22 = 1 := by kernel_rfl

/-- What a row lists of package sha. -/
def shaListed : List (String × DataW Unit) := [("pontoon/sha.firstWords", Rows.laid_pontoon_sha_firstWords), ("pontoon/sha.roundWords", Rows.laid_pontoon_sha_roundWords)]
def kInts : List Int := [1116352408, 1899447441, 3049323471, 3921009573, 961987163, 1508970993, 2453635748, 2870763221, 3624381080, 310598401, 607225278, 1426881987, 1925078388, 2162078206, 2614888103, 3248222580, 3835390401, 4022224774, 264347078, 604807628, 770255983, 1249150122, 1555081692, 1996064986, 2554220882, 2821834349, 2952996808, 3210313671, 3336571891, 3584528711, 113926993, 338241895, 666307205, 773529912, 1294757372, 1396182291, 1695183700, 1986661051, 2177026350, 2456956037, 2730485921, 2820302411, 3259730800, 3345764771, 3516065817, 3600352804, 4094571909, 275423344, 430227734, 506948616, 659060556, 883997877, 958139571, 1322822218, 1537002063, 1747873779, 1955562222, 2024104815, 2227730452, 2361852424, 2428436474, 2756734187, 3204031479, 3329325298]
def hInts : List Int := [1779033703, 3144134277, 1013904242, 2773480762, 1359893119, 2600822924, 528734635, 1541459225]
theorem kInts_at : ∀ j, j < 64 → kInts.getD j 0 = ((kWords.getD j 0).toNat : Int) := by decide +kernel
theorem hInts_at : ∀ j, j < 8 → hInts.getD j 0 = ((hWords.getD j 0).toNat : Int) := by decide +kernel

theorem tabs_of {W : World} (h : laidMetH Tryd.prog shaListed W) : Tabs W := by
  have h1 : Lib.TabIs Tryd.prog W "pontoon/sha.firstWords" .u32 hInts :=
    Lib.tabIs_of_head (rest := [("pontoon/sha.roundWords", Rows.laid_pontoon_sha_roundWords)]) gFirst gFirstType Tryd.underlying77 Tryd.underlying22 cellsW cells8 h
  have e : shaListed.filter (fun x => x.1 == "pontoon/sha.roundWords") = [("pontoon/sha.roundWords", Rows.laid_pontoon_sha_roundWords)] := by kernel_rfl
  have hf := h.filter (fun x => x.1 == "pontoon/sha.roundWords")
  rw [e] at hf
  have h2 : Lib.TabIs Tryd.prog W "pontoon/sha.roundWords" .u32 kInts :=
    Lib.tabIs_of_head (rest := []) gRound gRoundType Tryd.underlying114 Tryd.underlying22 cellsW cells64 hf
  have k : ∀ j, j < 64 → W.cell? ⟨1, j, none⟩ = some (.int .u32 ((kWords.getD j 0).toNat : Int)) := fun j hj => by
    rw [← kInts_at j hj]; exact h2.cell gRound j (by simpa [kInts] using hj)
  have hh : ∀ j, j < 8 → W.cell? ⟨0, j, none⟩ = some (.int .u32 ((hWords.getD j 0).toNat : Int)) := fun j hj => by
    rw [← hInts_at j hj]; exact h1.cell gFirst j (by simpa [hInts] using hj)
  exact ⟨⟨block_lt_of_cell (hh 0 (by decide)), block_lt_of_cell (k 0 (by decide))⟩, k, hh⟩

/-- A variable's cells turned. -/
def layCells (cs : Array Value) : Obj → Obj
  | .cells _ t frozen => .cells cs t frozen
  | o => o
def hCells : Array Value := #[.int .u32 1779033703, .int .u32 3144134277, .int .u32 1013904242, .int .u32 2773480762, .int .u32 1359893119, .int .u32 2600822924, .int .u32 528734635, .int .u32 1541459225]
def kCells : Array Value := #[.int .u32 1116352408, .int .u32 1899447441, .int .u32 3049323471, .int .u32 3921009573, .int .u32 961987163, .int .u32 1508970993, .int .u32 2453635748, .int .u32 2870763221, .int .u32 3624381080, .int .u32 310598401, .int .u32 607225278, .int .u32 1426881987, .int .u32 1925078388, .int .u32 2162078206, .int .u32 2614888103, .int .u32 3248222580, .int .u32 3835390401, .int .u32 4022224774, .int .u32 264347078, .int .u32 604807628, .int .u32 770255983, .int .u32 1249150122, .int .u32 1555081692, .int .u32 1996064986, .int .u32 2554220882, .int .u32 2821834349, .int .u32 2952996808, .int .u32 3210313671, .int .u32 3336571891, .int .u32 3584528711, .int .u32 113926993, .int .u32 338241895, .int .u32 666307205, .int .u32 773529912, .int .u32 1294757372, .int .u32 1396182291, .int .u32 1695183700, .int .u32 1986661051, .int .u32 2177026350, .int .u32 2456956037, .int .u32 2730485921, .int .u32 2820302411, .int .u32 3259730800, .int .u32 3345764771, .int .u32 3516065817, .int .u32 3600352804, .int .u32 4094571909, .int .u32 275423344, .int .u32 430227734, .int .u32 506948616, .int .u32 659060556, .int .u32 883997877, .int .u32 958139571, .int .u32 1322822218, .int .u32 1537002063, .int .u32 1747873779, .int .u32 1955562222, .int .u32 2024104815, .int .u32 2227730452, .int .u32 2361852424, .int .u32 2428436474, .int .u32 2756734187, .int .u32 3204031479, .int .u32 3329325298]
/-- A world for the witness: the settled one, the two tables holding what their initialisers lay. -/
noncomputable def shaWorld (os : Os) : World :=
  { World.holding Tryd.prog os ⟨#[], #[], []⟩ with heap := ((World.holding Tryd.prog os ⟨#[], #[], []⟩).heap.modify 0 (layCells hCells)).modify 1 (layCells kCells) }
theorem addr_add (b o j : Nat) : (⟨b, o, none⟩ : Addr).add j = ⟨b, o + j, none⟩ := by unfold Addr.add; split <;> simp_all

end Go.Proofs.YtkioomojdahjlaaDoor

namespace Go.Proofs.YtkioomojdahjlaaDoor
open Go.ChangeShapes Go.WideShapes Go.ChangeAt Go.RowKit

theorem mapM_ints {H : Type} {enc : TypeId × Value → H} {P : Program} {W : World} {base : Nat} {sp : Nat → Bool} {held : Bool} {e : TypeId} {q : IntKind} (he : P.underlying e = some (.int q)) {m : Nat} {cs : List Value} {c : Nat} :
    ∀ (L : List Nat) (xs : List (DataW H × List MemPlace)), L.mapM (fun i => DataW.trod enc P W base sp held m e ((cs.drop (i * c)).take c)) = some xs → ∀ i ∈ L, ∃ a, (cs.drop (i * c)).take c = [.int q a] ∧ (Lit.int q a).wf = true
  | [], xs, h => by intro i hi; cases hi
  | i :: L, xs, h => by
    rw [List.mapM_cons] at h
    simp only [bind, Option.bind_eq_some_iff, pure, Option.some.injEq] at h
    obtain ⟨y, hy, ys, hys, rfl⟩ := h
    intro j hj
    rcases List.mem_cons.1 hj with rfl | hj
    · obtain ⟨a, ea, _, wa⟩ := DataW.trod_int he hy
      exact ⟨a, ea, wa⟩
    · exact mapM_ints he L ys hys j hj
/-- The numbers of an array that came in. -/
theorem open_numbers {H : Type} {enc : TypeId × Value → H} {P : Program} {W : World} {base : Nat} {sp : Nat → Bool} {held : Bool} {k e : TypeId} {n : Nat} {q : IntKind} (A : WideMaps.ArrKey P k e n) (he : P.underlying e = some (.int q))
    {xs : Array Value} (hn : xs.size = n) {d : DataW H} {ps : List MemPlace} (hd : DataW.Trod enc P W base sp held k (.agg xs) d ps) :
    ∃ zs : List Int, zs.length = n ∧ xs = (zs.map (Value.int q)).toArray ∧ ∀ z ∈ zs, (Lit.int q z).wf = true := by
  obtain ⟨fuel, hf⟩ := hd
  cases fuel with
  | zero => simp [DataW.trod] at hf
  | succ m =>
    rw [DataW.trod_step] at hf
    unfold DataW.trodStep at hf
    simp only [A.hu, Value.cells] at hf
    rw [if_pos (by rw [A.size]; simpa using hn)] at hf
    simp only [Option.map_eq_some_iff] at hf
    obtain ⟨ys, hy, e1⟩ := hf
    have hc := mapM_ints he _ ys hy
    rw [A.one] at hc
    have hc' : ∀ i, i < n → ∃ a, xs.toList[i]? = some (.int q a) ∧ (Lit.int q a).wf = true := fun i hi => by
      obtain ⟨a, ha, hw⟩ := hc i (List.mem_range.2 hi)
      refine ⟨a, ?_, hw⟩
      rw [Nat.mul_one] at ha
      have h0 : ((xs.toList.drop i).take 1)[0]? = some (.int q a) := by rw [ha]; rfl
      simpa using h0
    refine ⟨xs.toList.map intOf, by simpa using hn, ?_, ?_⟩
    · apply Array.ext'
      simp only [List.map_map]
      apply List.ext_getElem?
      intro i
      by_cases hi : i < n
      · obtain ⟨a, ha, _⟩ := hc' i hi
        rw [ha]; simp [ha, intOf]
      · rw [List.getElem?_eq_none (by simpa [hn] using Nat.le_of_not_lt hi), List.getElem?_eq_none (by simpa [hn] using Nat.le_of_not_lt hi)]
    · intro z hz
      obtain ⟨v, hv, rfl⟩ := List.mem_map.1 hz
      obtain ⟨i, hi, rfl⟩ := List.getElem_of_mem hv
      obtain ⟨a, ha, hw⟩ := hc' i (by simpa [hn] using hi)
      rw [List.getElem?_eq_getElem hi] at ha
      rw [Option.some.inj ha]; exact hw
end Go.Proofs.YtkioomojdahjlaaDoor

namespace Go.Proofs.YtkioomojdahjlaaDoor
open Go.ChangeShapes Go.WideShapes Go.ChangeAt Go.RowKit
set_option linter.unusedVariables false

theorem arrD : WideMaps.ArrKey Tryd.prog 24 5 32 := ⟨Tryd.underlying24, by kernel_rfl, by kernel_rfl, by kernel_rfl⟩
theorem open_digest {H : Type} {enc : TypeId × Value → H} {W : World} {base : Nat} {sp : Nat → Bool} {held : Bool} {xs : Array Value} (hn : xs.size = 32) {d : DataW H} {ps : List MemPlace} (hd : DataW.Trod enc Tryd.prog W base sp held 24 (.agg xs) d ps) :
    ∃ l : List UInt8, xs = bc l ∧ l.length = 32 := by
  obtain ⟨zs, hl, rfl, hw⟩ := open_numbers arrD Tryd.underlying5 hn hd
  have e : ∀ z ∈ zs, ((UInt8.ofNat z.toNat).toNat : Int) = z := fun z hz => by
    have := hw z hz
    simp [Lit.wf, IntKind.min, IntKind.max, IntKind.signed, IntKind.bits] at this
    rw [UInt8.toNat_ofNat']; omega
  refine ⟨zs.map fun z => UInt8.ofNat z.toNat, ?_, by simpa using hl⟩
  unfold bc Lib.byteCells
  rw [List.map_map]
  congr 1
  apply List.map_congr_left
  intro z hz
  simp only [Function.comp_apply]
  rw [e z hz]
end Go.Proofs.YtkioomojdahjlaaDoor

namespace Go.Proofs.YtkioomojdahjlaaDoor
open Go.ChangeShapes Go.WideShapes Go.ChangeAt Go.RowKit
set_option linter.unusedVariables false

def byteOf : Value → UInt8
  | .int .u8 z => UInt8.ofNat z.toNat
  | _ => 0
theorem bytes_of (cs : List Value) (h : ∀ j, j < cs.length → ∃ b : UInt8, cs[j]? = some (.int .u8 (b.toNat : Int))) : cs = Lib.byteCells (cs.map byteOf) := by
  apply List.ext_getElem?
  intro j
  by_cases hj : j < cs.length
  · obtain ⟨b, hb⟩ := h j hj
    unfold Lib.byteCells
    rw [List.getElem?_map, List.getElem?_map, hb]
    simp [byteOf]
  · rw [List.getElem?_eq_none (by omega), List.getElem?_eq_none (by rw [Lib.byteCells_length, List.length_map]; omega)]
set_option maxRecDepth 100000 in
theorem open_tree {H : Type} {enc : TypeId × Value → H} {W : World} {base : Nat} {sp : Nat → Bool} {held : Bool} {cs : Array Value} (hn : cs.size = 1025) {d : DataW H} {ps : List MemPlace} (hd : DataW.Trod enc Tryd.prog W base sp held 27 (.agg cs) d ps) :
    ∃ (c : Nat) (L : List UInt8), c < 4294967296 ∧ L.length = 1024 ∧ cs = tr c L := by
  obtain ⟨fuel, hf⟩ := hd
  have e0 : Tryd.prog.cellsOf 22 = 1 := by kernel_rfl
  have e1 : Tryd.prog.cellsOf 24 = 32 := by kernel_rfl
  have e2 : Tryd.prog.cellsOf 25 = 1024 := by kernel_rfl
  obtain ⟨y0, y1, n, hx, hl, h0, h1⟩ := trod_struct2 Tryd.underlying27 hf
  simp only [e0, e2, Value.cells] at h0 h1
  have hL : cs.toList.length = 1025 := by simpa using hn
  generalize hcs : cs.toList = M at *
  obtain ⟨c, hc, _, hw⟩ := DataW.trod_int Tryd.underlying22 h0
  obtain ⟨xs, m, _, _, hl2, hxs, hel⟩ := DataW.trod_array Tryd.underlying25 h1
  simp only [e1] at hel
  have hR : ((M.drop 1).take 1024).length = 1024 := by simp; omega
  generalize hRR : (M.drop 1).take 1024 = R at *
  have hb : ∀ j, j < R.length → ∃ b : UInt8, R[j]? = some (.int .u8 (b.toNat : Int)) := fun j hj => by
    have hi : j / 32 < 32 := by omega
    have h2 := hel (j / 32) hi
    rw [List.getElem?_eq_getElem (by rw [hxs]; exact hi)] at h2
    obtain ⟨l, hl, hll⟩ := open_digest (xs := ((R.drop (j / 32 * 32)).take 32).toArray) (by simp; omega) ⟨m, h2⟩
    have h3 := bc_at l (j % 32) (by rw [hll]; exact Nat.mod_lt _ (by decide))
    rw [← hl, List.getElem?_toArray, List.getElem?_take, if_pos (Nat.mod_lt _ (by decide)), List.getElem?_drop, show j / 32 * 32 + j % 32 = j by omega] at h3
    exact ⟨_, h3⟩
  have hby := bytes_of R hb
  simp [Lit.wf, IntKind.min, IntKind.max, IntKind.signed, IntKind.bits] at hw
  obtain ⟨c, rfl⟩ := Int.eq_ofNat_of_zero_le hw.1
  refine ⟨c, R.map byteOf, by omega, by rw [List.length_map]; exact hR, ?_⟩
  have hsplit : M = (M.drop 0).take 1 ++ (M.drop 1).take 1024 := by
    rw [List.drop_zero, List.take_of_length_le (l := M.drop 1) (by rw [List.length_drop]; omega), List.take_append_drop]
  rw [hc, hRR, hby] at hsplit
  apply Array.toList_inj.1
  rw [hcs, hsplit]
  unfold tr
  simp [← hby]
theorem okWide3 {P : Program} {w : World} {f : FuncId} {fn : Func} {v0 v1 v2 : Value} {t0 t1 t2 : TypeId} (hinit : (P.inits.idxOf? f).isNone = true) (hf : P.funcs[f]? = some fn) (hb : (fn.body.isSome && !fn.ours && fn.nfree == 0) = true) (hp : fn.params = #[t0, t1, t2])
    (e0 : Value.okWideB P w t0 v0 = true) (e1 : Value.okWideB P w t1 v1 = true) (e2 : Value.okWideB P w t2 v2 = true) : Input.okWideB P w f ⟨#[], #[v0, v1, v2], []⟩ = true := by
  unfold Input.okWideB
  simp only [hf, hinit, hp, hb]
  simp only [Bool.and_eq_true, List.all_eq_true, List.mem_range]
  refine ⟨by simp, by simp, fun j hj => ?_⟩
  have hj3 : j < 3 := hj
  match j, hj3 with
  | 0, _ => exact e0
  | 1, _ => exact e1
  | 2, _ => exact e2
theorem treeTypes : Tryd.prog.cellTypes Tryd.prog.depth 27 = some (22 :: List.replicate 1024 5) := by kernel_rfl
set_option maxRecDepth 100000 in
theorem tree_ok (w : World) : Value.okWideB Tryd.prog w 27 (.agg (tr 0 (List.replicate 1024 0))) = true := by
  have hc : Tryd.prog.cellsOf 27 = 1025 := by kernel_rfl
  unfold Value.okWideB
  simp only [Tryd.underlying27]
  rw [tr_size, hc, List.length_replicate]
  simp only [beq_self_eq_true, Bool.true_and]
  unfold Cell.okWideRowB
  rw [treeTypes]
  simp only [tr_size, List.length_replicate, List.length_cons]
  have k0 : Cell.okWideB Tryd.prog w 22 (.int .u32 0) = true := by kernel_rfl
  have k1 : Cell.okWideB Tryd.prog w 5 (.int .u8 0) = true := by kernel_rfl
  simp only [Bool.and_eq_true, List.all_eq_true, List.mem_range]
  refine ⟨by rw [Nat.add_comm 1 1024, Nat.mod_self]; rfl, fun i hi => ?_⟩
  cases i with
  | zero => exact k0
  | succ i =>
    have h1 : (tr 0 (List.replicate 1024 0))[i + 1]? = some (.int .u8 0) := by
      have hi' : i < 1024 := by omega
      have h3 := bc_at (List.replicate 1024 0) i (by rw [List.length_replicate]; exact hi')
      rw [bc, List.getElem?_toArray, repl_getD 1024 i hi'] at h3
      unfold tr
      rw [List.getElem?_toArray, List.getElem?_cons_succ, h3]
      rfl
    have h2 : (22 :: List.replicate 1024 5 : List TypeId)[(i + 1) % (1024 + 1)]? = some 5 := by
      rw [Nat.mod_eq_of_lt (by omega), List.getElem?_cons_succ, List.getElem?_replicate, if_pos (by omega)]
    rw [h1, h2]
    exact k1
end Go.Proofs.YtkioomojdahjlaaDoor
