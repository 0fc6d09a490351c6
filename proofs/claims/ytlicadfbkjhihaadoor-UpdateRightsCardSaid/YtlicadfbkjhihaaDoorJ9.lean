/-
  UpdateRights: whether any updates, any stop, are right under any root, and double, is the document's.
-/
/-
  WHAT THE ROWS OF LAYER 1 LIST GIVES THE WALKS: the two tables of package sha, read as the program's text lays them.
-/
/-
  ARRAYS OF NUMBERS AS ARGUMENTS: what a row hands the walks. Over whatever program.
-/
/-
  A DIGEST, A LIST OF DIGESTS, A SIGNATURE AS ARGUMENTS: what a row hands the walks.
-/
/-
  AN UPDATE AND A STOP AS ARGUMENTS: what a row hands the walks.
-/
import Derived.Test.YtlicadfbkjhihaaDoorJ8
import Derived.BigQuiet
import Derived.Test.YtlicadfbkjhihaaDoorJ0
import Derived.Test.YtlicadfbkjhihaaDoorCards
import Derived.Test.YtlicadfbkjhihaaDoorTie
import Derived.ProofKit
import Derived.OpenShut
import Derived.Deep.DeepHandedRow
import Derived.Lib.LaidTab
import Derived.WideKeyArr2
import Derived.ChangeMaps5
import Derived.Test.YtlicadfbkjhihaaDoorJ5
import Derived.Deep.Slices
import Derived.Lib.SmallJoins
import Derived.Test.YtlicadfbkjhihaaDoorJ6
namespace Go.Proofs.YtlicadfbkjhihaaDoor
open Go Go.RowKit
set_option linter.unusedSimpArgs false
set_option linter.unusedVariables false

/-- Is a signature short? -/
def shV (n1 n2 n3 : Nat) : Bool := decide (n1 ≤ 60 ∧ n2 ≤ 60 ∧ n3 ≤ 60)
set_option maxHeartbeats 1000000 in
theorem shortV_calls (i : Int) (p1 p2 p3 : Option Addr) (n1 n2 n3 c1 c2 c3 : Nat) (w : World) :
    Calls Tryd.prog 13 #[.agg #[.int .i64 i, .slice p1 n1 c1, .slice p2 n2 c2, .slice p3 n3 c3]] w fun e w' => e = .returned (.bool (shV n1 n2 n3)) ∧ Below w.heap.size w w' := by
  have hb0 := (Below.refl w.heap.size w).alloc (Nat.le_refl _) (.cells #[.int .i64 i, .slice p1 n1 c1, .slice p2 n2 c2, .slice p3 n3 c3] 30)
  by_cases h1 : n1 ≤ 60
  · have d1 : decide ((n1 : Int) ≤ 60) = true := by simp; omega
    by_cases h2 : n2 ≤ 60
    · have d2 : decide ((n2 : Int) ≤ 60) = true := by simp; omega
      by_cases h3 : n3 ≤ 60
      · have d3 : decide ((n3 : Int) ≤ 60) = true := by simp; omega
        rw [show shV n1 n2 n3 = true by unfold shV; simp; omega]
        clear h1 h2 h3
        go_enter Tryd.func13, Tryd.ntmps13
        go_wp2
        go_ret
        exact ⟨rfl, hb0⟩
      · have d3 : decide ((n3 : Int) ≤ 60) = false := by simp; omega
        rw [show shV n1 n2 n3 = false by unfold shV; simp; omega]
        clear h1 h2 h3
        go_enter Tryd.func13, Tryd.ntmps13
        go_wp2
        go_ret
        exact ⟨rfl, hb0⟩
    · have d2 : decide ((n2 : Int) ≤ 60) = false := by simp; omega
      rw [show shV n1 n2 n3 = false by unfold shV; simp; omega]
      clear h1 h2
      go_enter Tryd.func13, Tryd.ntmps13
      go_wp2
      go_ret
      exact ⟨rfl, hb0⟩
  · have d1 : decide ((n1 : Int) ≤ 60) = false := by simp; omega
    rw [show shV n1 n2 n3 = false by unfold shV; simp; omega]
    clear h1
    go_enter Tryd.func13, Tryd.ntmps13
    go_wp2
    go_ret
    exact ⟨rfl, hb0⟩
set_option maxHeartbeats 2000000 in
set_option maxRecDepth 100000 in
theorem rights_bad1 (root : List UInt8) (hR : root.length = 32) (UA UB SS S1 S2 S3 : Array Value) (iA : (Tryd.prog.info? 32).map (·.size) = some UA.size) (iB : (Tryd.prog.info? 32).map (·.size) = some UB.size) (iS : (Tryd.prog.info? 40).map (·.size) = some SS.size)
    (z1 : S1.size = 4) (z2 : S2.size = 4) (z3 : S3.size = 4) (g1 : ∀ (Z : World) g, Z.heap[g]? = some (.cells UA 32 (0, 0)) → Z.rangeAt g 65 S1.toList) (g2 : ∀ (Z : World) g, Z.heap[g]? = some (.cells UB 32 (0, 0)) → Z.rangeAt g 65 S2.toList) (g3 : ∀ (Z : World) g, Z.heap[g]? = some (.cells SS 40 (0, 0)) → Z.rangeAt g 34 S3.toList)
    (s1 s2 s3 r1 hl db : Bool) (w : World) (tabs : Tabs w)
    (c1 : ∀ W, Calls Tryd.prog 13 #[.agg S1] W fun e w' => e = .returned (.bool s1) ∧ Below W.heap.size W w')
    (c2 : ∀ W, Calls Tryd.prog 13 #[.agg S2] W fun e w' => e = .returned (.bool s2) ∧ Below W.heap.size W w')
    (c3 : ∀ W, Calls Tryd.prog 13 #[.agg S3] W fun e w' => e = .returned (.bool s3) ∧ Below W.heap.size W w')
    (kR : ∀ W, Below w.heap.size w W → Calls Tryd.prog 14 #[.pointer none, .agg (bc root), .agg UA] W fun e w' => e = .returned (.bool r1) ∧ Below W.heap.size W w')
    (kS : ∀ W, Below w.heap.size w W → Calls Tryd.prog 15 #[.pointer none, .agg (bc root), .agg UA] W fun e w' => e = .returned (.bool r1) ∧ Below W.heap.size W w')
    (kH : ∀ W, Below w.heap.size w W → Calls Tryd.prog 16 #[.pointer none, .agg (bc root), .agg SS] W fun e w' => e = .returned (.bool hl) ∧ Below W.heap.size W w')
    (kI : ∀ W, Below w.heap.size w W → Calls Tryd.prog 17 #[.pointer none, .agg (bc root), .agg SS] W fun e w' => e = .returned (.bool hl) ∧ Below W.heap.size W w')
    (kD : ∀ W, Below w.heap.size w W → Calls Tryd.prog 18 #[.pointer none, .agg (bc root), .agg UA, .agg UB] W fun e w' => e = .returned (.bool db) ∧ Below W.heap.size W w')
    (kE : ∀ W, Below w.heap.size w W → Calls Tryd.prog 19 #[.pointer none, .agg (bc root), .agg UA, .agg UB] W fun e w' => e = .returned (.bool db) ∧ Below W.heap.size W w') (hs1 : s1 = false) :
    Calls Tryd.prog 4 #[.agg (bc root), .agg UA, .agg UB, .agg SS] w fun e w' => e = .returned (.bool true) ∧ Below w.heap.size w w' := by
  subst hs1
  have A := hide fun W t => uawake_calls W t
  have iR := digInfo root hR
  obtain ⟨q0, q1, q2⟩ := al3 w (.cells (bc root) 23) (.cells UA 32) (.cells UB 32)
  have b0 := (bel3 w (.cells (bc root) 23) (.cells UA 32) (.cells UB 32)).alloc (by simp; omega) (.cells SS 40)
  have sz : (((w.alloc (.cells (bc root) 23)).alloc (.cells UA 32)).alloc (.cells UB 32)).heap.size = w.heap.size + 1 + 1 + 1 := by simp
  have q3 := al1 (((w.alloc (.cells (bc root) 23)).alloc (.cells UA 32)).alloc (.cells UB 32)) (.cells SS 40)
  rw [sz] at q3
  have p0 := (Below.heap_alloc (((w.alloc (.cells (bc root) 23)).alloc (.cells UA 32)).alloc (.cells UB 32)) (.cells SS 40) w.heap.size (by simp <;> omega)).trans q0
  have p1 := (Below.heap_alloc (((w.alloc (.cells (bc root) 23)).alloc (.cells UA 32)).alloc (.cells UB 32)) (.cells SS 40) (w.heap.size + 1) (by simp <;> omega)).trans q1
  have p2 := (Below.heap_alloc (((w.alloc (.cells (bc root) 23)).alloc (.cells UA 32)).alloc (.cells UB 32)) (.cells SS 40) (w.heap.size + 1 + 1) (by simp <;> omega)).trans q2
  obtain ⟨X, hX⟩ : ∃ X, (((w.alloc (.cells (bc root) 23)).alloc (.cells UA 32)).alloc (.cells UB 32)).alloc (.cells SS 40) = X := ⟨_, rfl⟩
  rw [hX] at p0 p1 p2 q3 b0
  have HX := hide hX
  have tX := tabs.below b0 (Nat.le_refl _)
  have C1 := hide c1
  have C2 := hide c2
  have C3 := hide c3
  have G1 := hide g1
  have G2 := hide g2
  have G3 := hide g3
  have KR := hide kR
  have KS := hide kS
  have KH := hide kH
  have KI := hide kI
  have KD := hide kD
  have KE := hide kE
  have HT := hide tabs
  have Z1 : (Tryd.prog.info? 30).map (·.size) = some S1.toList.length := by rw [Array.length_toList, z1]; kernel_rfl
  have Z2 : (Tryd.prog.info? 30).map (·.size) = some S2.toList.length := by rw [Array.length_toList, z2]; kernel_rfl
  have Z3 : (Tryd.prog.info? 30).map (·.size) = some S3.toList.length := by rw [Array.length_toList, z3]; kernel_rfl
  have P0 := hide p0
  have P1 := hide p1
  have P2 := hide p2
  have P3 := hide q3
  clear hX q0 q1 q2 q3 sz p0 p1 p2 tabs c1 c2 c3 g1 g2 g3 kR kS kH kI kD kE z1 z2 z3 hR
  go_enter Tryd.func4, Tryd.ntmps4
  go_wp2_with (rw [unhide HX])
  refine (unhide A _ tX).mono ?_
  rintro e w1 ⟨rfl, d1⟩
  have B1 := hide d1
  clear d1
  go_wp2_with (first
    | go_skip
    | (refine wpList_load_mid_gv rfl 30 (.tmp 11) rfl (w.heap.size + 1) 65 rfl S1.toList _ (unhide G1 _ _ (Below.at (unhide B1) (Array.getElem?_eq_some_iff.1 (unhide P1)).1 (unhide P1))) Tryd.underlying30 rfl Z1 ?_))
  refine (unhide C1 _).mono ?_
  rintro e w2 ⟨rfl, d⟩
  have B2 := hide ((unhide B1).trans (d.mono (unhide B1).size))
  clear d B1
  go_wp2_with go_skip
  refine (unhide A _ (tX.below (unhide B2) (Nat.le_refl _))).mono ?_
  rintro e u ⟨rfl, d⟩
  go_wp2
  go_ret
  exact ⟨rfl, b0.trans (((unhide B2).trans (d.mono (unhide B2).size)).mono b0.size)⟩
set_option maxHeartbeats 2000000 in
set_option maxRecDepth 100000 in
theorem rights_bad2 (root : List UInt8) (hR : root.length = 32) (UA UB SS S1 S2 S3 : Array Value) (iA : (Tryd.prog.info? 32).map (·.size) = some UA.size) (iB : (Tryd.prog.info? 32).map (·.size) = some UB.size) (iS : (Tryd.prog.info? 40).map (·.size) = some SS.size)
    (z1 : S1.size = 4) (z2 : S2.size = 4) (z3 : S3.size = 4) (g1 : ∀ (Z : World) g, Z.heap[g]? = some (.cells UA 32 (0, 0)) → Z.rangeAt g 65 S1.toList) (g2 : ∀ (Z : World) g, Z.heap[g]? = some (.cells UB 32 (0, 0)) → Z.rangeAt g 65 S2.toList) (g3 : ∀ (Z : World) g, Z.heap[g]? = some (.cells SS 40 (0, 0)) → Z.rangeAt g 34 S3.toList)
    (s1 s2 s3 r1 hl db : Bool) (w : World) (tabs : Tabs w)
    (c1 : ∀ W, Calls Tryd.prog 13 #[.agg S1] W fun e w' => e = .returned (.bool s1) ∧ Below W.heap.size W w')
    (c2 : ∀ W, Calls Tryd.prog 13 #[.agg S2] W fun e w' => e = .returned (.bool s2) ∧ Below W.heap.size W w')
    (c3 : ∀ W, Calls Tryd.prog 13 #[.agg S3] W fun e w' => e = .returned (.bool s3) ∧ Below W.heap.size W w')
    (kR : ∀ W, Below w.heap.size w W → Calls Tryd.prog 14 #[.pointer none, .agg (bc root), .agg UA] W fun e w' => e = .returned (.bool r1) ∧ Below W.heap.size W w')
    (kS : ∀ W, Below w.heap.size w W → Calls Tryd.prog 15 #[.pointer none, .agg (bc root), .agg UA] W fun e w' => e = .returned (.bool r1) ∧ Below W.heap.size W w')
    (kH : ∀ W, Below w.heap.size w W → Calls Tryd.prog 16 #[.pointer none, .agg (bc root), .agg SS] W fun e w' => e = .returned (.bool hl) ∧ Below W.heap.size W w')
    (kI : ∀ W, Below w.heap.size w W → Calls Tryd.prog 17 #[.pointer none, .agg (bc root), .agg SS] W fun e w' => e = .returned (.bool hl) ∧ Below W.heap.size W w')
    (kD : ∀ W, Below w.heap.size w W → Calls Tryd.prog 18 #[.pointer none, .agg (bc root), .agg UA, .agg UB] W fun e w' => e = .returned (.bool db) ∧ Below W.heap.size W w')
    (kE : ∀ W, Below w.heap.size w W → Calls Tryd.prog 19 #[.pointer none, .agg (bc root), .agg UA, .agg UB] W fun e w' => e = .returned (.bool db) ∧ Below W.heap.size W w') (hs1 : s1 = true) (hs2 : s2 = false) :
    Calls Tryd.prog 4 #[.agg (bc root), .agg UA, .agg UB, .agg SS] w fun e w' => e = .returned (.bool true) ∧ Below w.heap.size w w' := by
  subst hs1 hs2
  have A := hide fun W t => uawake_calls W t
  have iR := digInfo root hR
  obtain ⟨q0, q1, q2⟩ := al3 w (.cells (bc root) 23) (.cells UA 32) (.cells UB 32)
  have b0 := (bel3 w (.cells (bc root) 23) (.cells UA 32) (.cells UB 32)).alloc (by simp; omega) (.cells SS 40)
  have sz : (((w.alloc (.cells (bc root) 23)).alloc (.cells UA 32)).alloc (.cells UB 32)).heap.size = w.heap.size + 1 + 1 + 1 := by simp
  have q3 := al1 (((w.alloc (.cells (bc root) 23)).alloc (.cells UA 32)).alloc (.cells UB 32)) (.cells SS 40)
  rw [sz] at q3
  have p0 := (Below.heap_alloc (((w.alloc (.cells (bc root) 23)).alloc (.cells UA 32)).alloc (.cells UB 32)) (.cells SS 40) w.heap.size (by simp <;> omega)).trans q0
  have p1 := (Below.heap_alloc (((w.alloc (.cells (bc root) 23)).alloc (.cells UA 32)).alloc (.cells UB 32)) (.cells SS 40) (w.heap.size + 1) (by simp <;> omega)).trans q1
  have p2 := (Below.heap_alloc (((w.alloc (.cells (bc root) 23)).alloc (.cells UA 32)).alloc (.cells UB 32)) (.cells SS 40) (w.heap.size + 1 + 1) (by simp <;> omega)).trans q2
  obtain ⟨X, hX⟩ : ∃ X, (((w.alloc (.cells (bc root) 23)).alloc (.cells UA 32)).alloc (.cells UB 32)).alloc (.cells SS 40) = X := ⟨_, rfl⟩
  rw [hX] at p0 p1 p2 q3 b0
  have HX := hide hX
  have tX := tabs.below b0 (Nat.le_refl _)
  have C1 := hide c1
  have C2 := hide c2
  have C3 := hide c3
  have G1 := hide g1
  have G2 := hide g2
  have G3 := hide g3
  have KR := hide kR
  have KS := hide kS
  have KH := hide kH
  have KI := hide kI
  have KD := hide kD
  have KE := hide kE
  have HT := hide tabs
  have Z1 : (Tryd.prog.info? 30).map (·.size) = some S1.toList.length := by rw [Array.length_toList, z1]; kernel_rfl
  have Z2 : (Tryd.prog.info? 30).map (·.size) = some S2.toList.length := by rw [Array.length_toList, z2]; kernel_rfl
  have Z3 : (Tryd.prog.info? 30).map (·.size) = some S3.toList.length := by rw [Array.length_toList, z3]; kernel_rfl
  have P0 := hide p0
  have P1 := hide p1
  have P2 := hide p2
  have P3 := hide q3
  clear hX q0 q1 q2 q3 sz p0 p1 p2 tabs c1 c2 c3 g1 g2 g3 kR kS kH kI kD kE z1 z2 z3 hR
  go_enter Tryd.func4, Tryd.ntmps4
  go_wp2_with (rw [unhide HX])
  refine (unhide A _ tX).mono ?_
  rintro e w1 ⟨rfl, d1⟩
  have B1 := hide d1
  clear d1
  go_wp2_with (first
    | go_skip
    | (refine wpList_load_mid_gv rfl 30 (.tmp 11) rfl (w.heap.size + 1) 65 rfl S1.toList _ (unhide G1 _ _ (Below.at (unhide B1) (Array.getElem?_eq_some_iff.1 (unhide P1)).1 (unhide P1))) Tryd.underlying30 rfl Z1 ?_))
  refine (unhide C1 _).mono ?_
  rintro e w2 ⟨rfl, d⟩
  have B2 := hide ((unhide B1).trans (d.mono (unhide B1).size))
  clear d B1
  go_wp2_with (first
    | go_skip
    | (refine wpList_load_mid_gv rfl 30 (.tmp 16) rfl (w.heap.size + 1 + 1) 65 rfl S2.toList _ (unhide G2 _ _ (Below.at (unhide B2) (Array.getElem?_eq_some_iff.1 (unhide P2)).1 (unhide P2))) Tryd.underlying30 rfl Z2 ?_))
  refine (unhide C2 _).mono ?_
  rintro e w3 ⟨rfl, d⟩
  have B3 := hide ((unhide B2).trans (d.mono (unhide B2).size))
  clear d B2
  go_wp2_with go_skip
  refine (unhide A _ (tX.below (unhide B3) (Nat.le_refl _))).mono ?_
  rintro e u ⟨rfl, d⟩
  go_wp2
  go_ret
  exact ⟨rfl, b0.trans (((unhide B3).trans (d.mono (unhide B3).size)).mono b0.size)⟩
set_option maxHeartbeats 2000000 in
set_option maxRecDepth 100000 in
theorem rights_bad3 (root : List UInt8) (hR : root.length = 32) (UA UB SS S1 S2 S3 : Array Value) (iA : (Tryd.prog.info? 32).map (·.size) = some UA.size) (iB : (Tryd.prog.info? 32).map (·.size) = some UB.size) (iS : (Tryd.prog.info? 40).map (·.size) = some SS.size)
    (z1 : S1.size = 4) (z2 : S2.size = 4) (z3 : S3.size = 4) (g1 : ∀ (Z : World) g, Z.heap[g]? = some (.cells UA 32 (0, 0)) → Z.rangeAt g 65 S1.toList) (g2 : ∀ (Z : World) g, Z.heap[g]? = some (.cells UB 32 (0, 0)) → Z.rangeAt g 65 S2.toList) (g3 : ∀ (Z : World) g, Z.heap[g]? = some (.cells SS 40 (0, 0)) → Z.rangeAt g 34 S3.toList)
    (s1 s2 s3 r1 hl db : Bool) (w : World) (tabs : Tabs w)
    (c1 : ∀ W, Calls Tryd.prog 13 #[.agg S1] W fun e w' => e = .returned (.bool s1) ∧ Below W.heap.size W w')
    (c2 : ∀ W, Calls Tryd.prog 13 #[.agg S2] W fun e w' => e = .returned (.bool s2) ∧ Below W.heap.size W w')
    (c3 : ∀ W, Calls Tryd.prog 13 #[.agg S3] W fun e w' => e = .returned (.bool s3) ∧ Below W.heap.size W w')
    (kR : ∀ W, Below w.heap.size w W → Calls Tryd.prog 14 #[.pointer none, .agg (bc root), .agg UA] W fun e w' => e = .returned (.bool r1) ∧ Below W.heap.size W w')
    (kS : ∀ W, Below w.heap.size w W → Calls Tryd.prog 15 #[.pointer none, .agg (bc root), .agg UA] W fun e w' => e = .returned (.bool r1) ∧ Below W.heap.size W w')
    (kH : ∀ W, Below w.heap.size w W → Calls Tryd.prog 16 #[.pointer none, .agg (bc root), .agg SS] W fun e w' => e = .returned (.bool hl) ∧ Below W.heap.size W w')
    (kI : ∀ W, Below w.heap.size w W → Calls Tryd.prog 17 #[.pointer none, .agg (bc root), .agg SS] W fun e w' => e = .returned (.bool hl) ∧ Below W.heap.size W w')
    (kD : ∀ W, Below w.heap.size w W → Calls Tryd.prog 18 #[.pointer none, .agg (bc root), .agg UA, .agg UB] W fun e w' => e = .returned (.bool db) ∧ Below W.heap.size W w')
    (kE : ∀ W, Below w.heap.size w W → Calls Tryd.prog 19 #[.pointer none, .agg (bc root), .agg UA, .agg UB] W fun e w' => e = .returned (.bool db) ∧ Below W.heap.size W w') (hs1 : s1 = true) (hs2 : s2 = true) (hs3 : s3 = false) :
    Calls Tryd.prog 4 #[.agg (bc root), .agg UA, .agg UB, .agg SS] w fun e w' => e = .returned (.bool true) ∧ Below w.heap.size w w' := by
  subst hs1 hs2 hs3
  have A := hide fun W t => uawake_calls W t
  have iR := digInfo root hR
  obtain ⟨q0, q1, q2⟩ := al3 w (.cells (bc root) 23) (.cells UA 32) (.cells UB 32)
  have b0 := (bel3 w (.cells (bc root) 23) (.cells UA 32) (.cells UB 32)).alloc (by simp; omega) (.cells SS 40)
  have sz : (((w.alloc (.cells (bc root) 23)).alloc (.cells UA 32)).alloc (.cells UB 32)).heap.size = w.heap.size + 1 + 1 + 1 := by simp
  have q3 := al1 (((w.alloc (.cells (bc root) 23)).alloc (.cells UA 32)).alloc (.cells UB 32)) (.cells SS 40)
  rw [sz] at q3
  have p0 := (Below.heap_alloc (((w.alloc (.cells (bc root) 23)).alloc (.cells UA 32)).alloc (.cells UB 32)) (.cells SS 40) w.heap.size (by simp <;> omega)).trans q0
  have p1 := (Below.heap_alloc (((w.alloc (.cells (bc root) 23)).alloc (.cells UA 32)).alloc (.cells UB 32)) (.cells SS 40) (w.heap.size + 1) (by simp <;> omega)).trans q1
  have p2 := (Below.heap_alloc (((w.alloc (.cells (bc root) 23)).alloc (.cells UA 32)).alloc (.cells UB 32)) (.cells SS 40) (w.heap.size + 1 + 1) (by simp <;> omega)).trans q2
  obtain ⟨X, hX⟩ : ∃ X, (((w.alloc (.cells (bc root) 23)).alloc (.cells UA 32)).alloc (.cells UB 32)).alloc (.cells SS 40) = X := ⟨_, rfl⟩
  rw [hX] at p0 p1 p2 q3 b0
  have HX := hide hX
  have tX := tabs.below b0 (Nat.le_refl _)
  have C1 := hide c1
  have C2 := hide c2
  have C3 := hide c3
  have G1 := hide g1
  have G2 := hide g2
  have G3 := hide g3
  have KR := hide kR
  have KS := hide kS
  have KH := hide kH
  have KI := hide kI
  have KD := hide kD
  have KE := hide kE
  have HT := hide tabs
  have Z1 : (Tryd.prog.info? 30).map (·.size) = some S1.toList.length := by rw [Array.length_toList, z1]; kernel_rfl
  have Z2 : (Tryd.prog.info? 30).map (·.size) = some S2.toList.length := by rw [Array.length_toList, z2]; kernel_rfl
  have Z3 : (Tryd.prog.info? 30).map (·.size) = some S3.toList.length := by rw [Array.length_toList, z3]; kernel_rfl
  have P0 := hide p0
  have P1 := hide p1
  have P2 := hide p2
  have P3 := hide q3
  clear hX q0 q1 q2 q3 sz p0 p1 p2 tabs c1 c2 c3 g1 g2 g3 kR kS kH kI kD kE z1 z2 z3 hR
  go_enter Tryd.func4, Tryd.ntmps4
  go_wp2_with (rw [unhide HX])
  refine (unhide A _ tX).mono ?_
  rintro e w1 ⟨rfl, d1⟩
  have B1 := hide d1
  clear d1
  go_wp2_with (first
    | go_skip
    | (refine wpList_load_mid_gv rfl 30 (.tmp 11) rfl (w.heap.size + 1) 65 rfl S1.toList _ (unhide G1 _ _ (Below.at (unhide B1) (Array.getElem?_eq_some_iff.1 (unhide P1)).1 (unhide P1))) Tryd.underlying30 rfl Z1 ?_))
  refine (unhide C1 _).mono ?_
  rintro e w2 ⟨rfl, d⟩
  have B2 := hide ((unhide B1).trans (d.mono (unhide B1).size))
  clear d B1
  go_wp2_with (first
    | go_skip
    | (refine wpList_load_mid_gv rfl 30 (.tmp 16) rfl (w.heap.size + 1 + 1) 65 rfl S2.toList _ (unhide G2 _ _ (Below.at (unhide B2) (Array.getElem?_eq_some_iff.1 (unhide P2)).1 (unhide P2))) Tryd.underlying30 rfl Z2 ?_))
  refine (unhide C2 _).mono ?_
  rintro e w3 ⟨rfl, d⟩
  have B3 := hide ((unhide B2).trans (d.mono (unhide B2).size))
  clear d B2
  go_wp2_with (first
    | go_skip
    | (refine wpList_load_mid_gv rfl 30 (.tmp 22) rfl (w.heap.size + 1 + 1 + 1) 34 rfl S3.toList _ (unhide G3 _ _ (Below.at (unhide B3) (Array.getElem?_eq_some_iff.1 (unhide P3)).1 (unhide P3))) Tryd.underlying30 rfl Z3 ?_))
  refine (unhide C3 _).mono ?_
  rintro e w4 ⟨rfl, d⟩
  have B4 := hide ((unhide B3).trans (d.mono (unhide B3).size))
  clear d B3
  go_wp2_with go_skip
  refine (unhide A _ (tX.below (unhide B4) (Nat.le_refl _))).mono ?_
  rintro e u ⟨rfl, d⟩
  go_wp2
  go_ret
  exact ⟨rfl, b0.trans (((unhide B4).trans (d.mono (unhide B4).size)).mono b0.size)⟩
set_option maxHeartbeats 4000000 in
set_option maxRecDepth 100000 in
theorem rights_good (root : List UInt8) (hR : root.length = 32) (UA UB SS S1 S2 S3 : Array Value) (iA : (Tryd.prog.info? 32).map (·.size) = some UA.size) (iB : (Tryd.prog.info? 32).map (·.size) = some UB.size) (iS : (Tryd.prog.info? 40).map (·.size) = some SS.size)
    (z1 : S1.size = 4) (z2 : S2.size = 4) (z3 : S3.size = 4) (g1 : ∀ (Z : World) g, Z.heap[g]? = some (.cells UA 32 (0, 0)) → Z.rangeAt g 65 S1.toList) (g2 : ∀ (Z : World) g, Z.heap[g]? = some (.cells UB 32 (0, 0)) → Z.rangeAt g 65 S2.toList) (g3 : ∀ (Z : World) g, Z.heap[g]? = some (.cells SS 40 (0, 0)) → Z.rangeAt g 34 S3.toList)
    (s1 s2 s3 r1 hl db : Bool) (w : World) (tabs : Tabs w)
    (c1 : ∀ W, Calls Tryd.prog 13 #[.agg S1] W fun e w' => e = .returned (.bool s1) ∧ Below W.heap.size W w')
    (c2 : ∀ W, Calls Tryd.prog 13 #[.agg S2] W fun e w' => e = .returned (.bool s2) ∧ Below W.heap.size W w')
    (c3 : ∀ W, Calls Tryd.prog 13 #[.agg S3] W fun e w' => e = .returned (.bool s3) ∧ Below W.heap.size W w')
    (kR : ∀ W, Below w.heap.size w W → Calls Tryd.prog 14 #[.pointer none, .agg (bc root), .agg UA] W fun e w' => e = .returned (.bool r1) ∧ Below W.heap.size W w')
    (kS : ∀ W, Below w.heap.size w W → Calls Tryd.prog 15 #[.pointer none, .agg (bc root), .agg UA] W fun e w' => e = .returned (.bool r1) ∧ Below W.heap.size W w')
    (kH : ∀ W, Below w.heap.size w W → Calls Tryd.prog 16 #[.pointer none, .agg (bc root), .agg SS] W fun e w' => e = .returned (.bool hl) ∧ Below W.heap.size W w')
    (kI : ∀ W, Below w.heap.size w W → Calls Tryd.prog 17 #[.pointer none, .agg (bc root), .agg SS] W fun e w' => e = .returned (.bool hl) ∧ Below W.heap.size W w')
    (kD : ∀ W, Below w.heap.size w W → Calls Tryd.prog 18 #[.pointer none, .agg (bc root), .agg UA, .agg UB] W fun e w' => e = .returned (.bool db) ∧ Below W.heap.size W w')
    (kE : ∀ W, Below w.heap.size w W → Calls Tryd.prog 19 #[.pointer none, .agg (bc root), .agg UA, .agg UB] W fun e w' => e = .returned (.bool db) ∧ Below W.heap.size W w') (hs1 : s1 = true) (hs2 : s2 = true) (hs3 : s3 = true) :
    Calls Tryd.prog 4 #[.agg (bc root), .agg UA, .agg UB, .agg SS] w fun e w' => e = .returned (.bool true) ∧ Below w.heap.size w w' := by
  subst hs1 hs2 hs3
  have A := hide fun W t => uawake_calls W t
  have iR := digInfo root hR
  obtain ⟨q0, q1, q2⟩ := al3 w (.cells (bc root) 23) (.cells UA 32) (.cells UB 32)
  have b0 := (bel3 w (.cells (bc root) 23) (.cells UA 32) (.cells UB 32)).alloc (by simp; omega) (.cells SS 40)
  have sz : (((w.alloc (.cells (bc root) 23)).alloc (.cells UA 32)).alloc (.cells UB 32)).heap.size = w.heap.size + 1 + 1 + 1 := by simp
  have q3 := al1 (((w.alloc (.cells (bc root) 23)).alloc (.cells UA 32)).alloc (.cells UB 32)) (.cells SS 40)
  rw [sz] at q3
  have p0 := (Below.heap_alloc (((w.alloc (.cells (bc root) 23)).alloc (.cells UA 32)).alloc (.cells UB 32)) (.cells SS 40) w.heap.size (by simp <;> omega)).trans q0
  have p1 := (Below.heap_alloc (((w.alloc (.cells (bc root) 23)).alloc (.cells UA 32)).alloc (.cells UB 32)) (.cells SS 40) (w.heap.size + 1) (by simp <;> omega)).trans q1
  have p2 := (Below.heap_alloc (((w.alloc (.cells (bc root) 23)).alloc (.cells UA 32)).alloc (.cells UB 32)) (.cells SS 40) (w.heap.size + 1 + 1) (by simp <;> omega)).trans q2
  obtain ⟨X, hX⟩ : ∃ X, (((w.alloc (.cells (bc root) 23)).alloc (.cells UA 32)).alloc (.cells UB 32)).alloc (.cells SS 40) = X := ⟨_, rfl⟩
  rw [hX] at p0 p1 p2 q3 b0
  have HX := hide hX
  have tX := tabs.below b0 (Nat.le_refl _)
  have C1 := hide c1
  have C2 := hide c2
  have C3 := hide c3
  have G1 := hide g1
  have G2 := hide g2
  have G3 := hide g3
  have KR := hide kR
  have KS := hide kS
  have KH := hide kH
  have KI := hide kI
  have KD := hide kD
  have KE := hide kE
  have HT := hide tabs
  have Z1 : (Tryd.prog.info? 30).map (·.size) = some S1.toList.length := by rw [Array.length_toList, z1]; kernel_rfl
  have Z2 : (Tryd.prog.info? 30).map (·.size) = some S2.toList.length := by rw [Array.length_toList, z2]; kernel_rfl
  have Z3 : (Tryd.prog.info? 30).map (·.size) = some S3.toList.length := by rw [Array.length_toList, z3]; kernel_rfl
  have P0 := hide p0
  have P1 := hide p1
  have P2 := hide p2
  have P3 := hide q3
  clear hX q0 q1 q2 q3 sz p0 p1 p2 tabs c1 c2 c3 g1 g2 g3 kR kS kH kI kD kE z1 z2 z3 hR
  go_enter Tryd.func4, Tryd.ntmps4
  go_wp2_with (rw [unhide HX])
  refine (unhide A _ tX).mono ?_
  rintro e w1 ⟨rfl, d1⟩
  have B1 := hide d1
  clear d1
  go_wp2_with (first
    | go_skip
    | (refine wpList_load_mid_gv rfl 30 (.tmp 11) rfl (w.heap.size + 1) 65 rfl S1.toList _ (unhide G1 _ _ (Below.at (unhide B1) (Array.getElem?_eq_some_iff.1 (unhide P1)).1 (unhide P1))) Tryd.underlying30 rfl Z1 ?_))
  refine (unhide C1 _).mono ?_
  rintro e w2 ⟨rfl, d⟩
  have B2 := hide ((unhide B1).trans (d.mono (unhide B1).size))
  clear d B1
  go_wp2_with (first
    | go_skip
    | (refine wpList_load_mid_gv rfl 30 (.tmp 16) rfl (w.heap.size + 1 + 1) 65 rfl S2.toList _ (unhide G2 _ _ (Below.at (unhide B2) (Array.getElem?_eq_some_iff.1 (unhide P2)).1 (unhide P2))) Tryd.underlying30 rfl Z2 ?_))
  refine (unhide C2 _).mono ?_
  rintro e w3 ⟨rfl, d⟩
  have B3 := hide ((unhide B2).trans (d.mono (unhide B2).size))
  clear d B2
  go_wp2_with (first
    | go_skip
    | (refine wpList_load_mid_gv rfl 30 (.tmp 22) rfl (w.heap.size + 1 + 1 + 1) 34 rfl S3.toList _ (unhide G3 _ _ (Below.at (unhide B3) (Array.getElem?_eq_some_iff.1 (unhide P3)).1 (unhide P3))) Tryd.underlying30 rfl Z3 ?_))
  refine (unhide C3 _).mono ?_
  rintro e w4 ⟨rfl, d⟩
  have B4 := hide ((unhide B3).trans (d.mono (unhide B3).size))
  clear d B3
  have bw := b0.trans ((unhide B4).mono b0.size)
  have y0 := Below.at (unhide B4) (Array.getElem?_eq_some_iff.1 (unhide P0)).1 (unhide P0)
  have R0 : Hid (∀ w', (∃ p : Regrown, w' = Sort.grow (redrawn w4 p.d) p.os) → w'.heap[w.heap.size]? = some (.cells (bc root) 23 (0, 0))) := fun w' ⟨p, hp⟩ => by rw [hp]; exact Below.at (below_regrown w4 p.d p.os) (Array.getElem?_eq_some_iff.1 y0).1 y0
  have y1 := Below.at (unhide B4) (Array.getElem?_eq_some_iff.1 (unhide P1)).1 (unhide P1)
  have R1 : Hid (∀ w', (∃ p : Regrown, w' = Sort.grow (redrawn w4 p.d) p.os) → w'.heap[w.heap.size + 1]? = some (.cells UA 32 (0, 0))) := fun w' ⟨p, hp⟩ => by rw [hp]; exact Below.at (below_regrown w4 p.d p.os) (Array.getElem?_eq_some_iff.1 y1).1 y1
  have y2 := Below.at (unhide B4) (Array.getElem?_eq_some_iff.1 (unhide P2)).1 (unhide P2)
  have R2 : Hid (∀ w', (∃ p : Regrown, w' = Sort.grow (redrawn w4 p.d) p.os) → w'.heap[w.heap.size + 1 + 1]? = some (.cells UB 32 (0, 0))) := fun w' ⟨p, hp⟩ => by rw [hp]; exact Below.at (below_regrown w4 p.d p.os) (Array.getElem?_eq_some_iff.1 y2).1 y2
  have y3 := Below.at (unhide B4) (Array.getElem?_eq_some_iff.1 (unhide P3)).1 (unhide P3)
  have R3 : Hid (∀ w', (∃ p : Regrown, w' = Sort.grow (redrawn w4 p.d) p.os) → w'.heap[w.heap.size + 1 + 1 + 1]? = some (.cells SS 40 (0, 0))) := fun w' ⟨p, hp⟩ => by rw [hp]; exact Below.at (below_regrown w4 p.d p.os) (Array.getElem?_eq_some_iff.1 y3).1 y3
  have t4 := tX.below (unhide B4) (Nat.le_refl _)
  have kA := hide fun d os => Calls.regrown_of (w := w4) (d := d) (os := os) (unhide A _ (t4.below (below_regrown w4 d os) (Nat.le_refl _)))
  have yR := hide fun d os => Calls.regrown_of (w := w4) (d := d) (os := os) (unhide KR _ (bw.trans ((below_regrown w4 d os).mono bw.size)))
  have yS := hide fun d os => Calls.regrown_of (w := w4) (d := d) (os := os) (unhide KS _ (bw.trans ((below_regrown w4 d os).mono bw.size)))
  have yH := hide fun d os => Calls.regrown_of (w := w4) (d := d) (os := os) (unhide KH _ (bw.trans ((below_regrown w4 d os).mono bw.size)))
  have yI := hide fun d os => Calls.regrown_of (w := w4) (d := d) (os := os) (unhide KI _ (bw.trans ((below_regrown w4 d os).mono bw.size)))
  have yD := hide fun d os => Calls.regrown_of (w := w4) (d := d) (os := os) (unhide KD _ (bw.trans ((below_regrown w4 d os).mono bw.size)))
  have yE := hide fun d os => Calls.regrown_of (w := w4) (d := d) (os := os) (unhide KE _ (bw.trans ((below_regrown w4 d os).mono bw.size)))
  have e1 : (r1 == r1) = true := beq_self_eq_true _
  have e2 : (hl == hl) = true := beq_self_eq_true _
  have e3 : (db == db) = true := beq_self_eq_true _
  clear y0 y1 y2 y3 t4 tX KR KS KH KI KD KE A
  go_wp2_with go_skip
  refine wp_region_below mixed (by kernel_rfl) ?_
  quiet_step (exact unhide kA _ _)
  quiet_step (fail)
  refine wpQuiet_load_row rfl 23 (.tmp 4) rfl w.heap.size rfl 23 _ (0, 0) _ (unhide R0) Tryd.underlying23 rfl iR ?_
  refine wpQuiet_load_row rfl 32 (.tmp 5) rfl (w.heap.size + 1) rfl 32 _ (0, 0) _ (unhide R1) Tryd.underlying32 rfl iA ?_
  quiet_step (exact unhide yR _ _)
  refine wpQuiet_load_row rfl 23 (.tmp 4) rfl w.heap.size rfl 23 _ (0, 0) _ (unhide R0) Tryd.underlying23 rfl iR ?_
  refine wpQuiet_load_row rfl 32 (.tmp 5) rfl (w.heap.size + 1) rfl 32 _ (0, 0) _ (unhide R1) Tryd.underlying32 rfl iA ?_
  quiet_step (exact unhide yS _ _)
  quiet_step (fail)
  quiet_step (fail)
  quiet_step (fail)
  refine wpQuiet_load_row rfl 23 (.tmp 4) rfl w.heap.size rfl 23 _ (0, 0) _ (unhide R0) Tryd.underlying23 rfl iR ?_
  refine wpQuiet_load_row rfl 40 (.tmp 7) rfl (w.heap.size + 1 + 1 + 1) rfl 40 _ (0, 0) _ (unhide R3) Tryd.underlying40 rfl iS ?_
  quiet_step (exact unhide yH _ _)
  refine wpQuiet_load_row rfl 23 (.tmp 4) rfl w.heap.size rfl 23 _ (0, 0) _ (unhide R0) Tryd.underlying23 rfl iR ?_
  refine wpQuiet_load_row rfl 40 (.tmp 7) rfl (w.heap.size + 1 + 1 + 1) rfl 40 _ (0, 0) _ (unhide R3) Tryd.underlying40 rfl iS ?_
  quiet_step (exact unhide yI _ _)
  quiet_step (fail)
  quiet_step (fail)
  quiet_step (fail)
  refine wpQuiet_load_row rfl 23 (.tmp 4) rfl w.heap.size rfl 23 _ (0, 0) _ (unhide R0) Tryd.underlying23 rfl iR ?_
  refine wpQuiet_load_row rfl 32 (.tmp 5) rfl (w.heap.size + 1) rfl 32 _ (0, 0) _ (unhide R1) Tryd.underlying32 rfl iA ?_
  refine wpQuiet_load_row rfl 32 (.tmp 6) rfl (w.heap.size + 1 + 1) rfl 32 _ (0, 0) _ (unhide R2) Tryd.underlying32 rfl iB ?_
  quiet_step (exact unhide yD _ _)
  refine wpQuiet_load_row rfl 23 (.tmp 4) rfl w.heap.size rfl 23 _ (0, 0) _ (unhide R0) Tryd.underlying23 rfl iR ?_
  refine wpQuiet_load_row rfl 32 (.tmp 5) rfl (w.heap.size + 1) rfl 32 _ (0, 0) _ (unhide R1) Tryd.underlying32 rfl iA ?_
  refine wpQuiet_load_row rfl 32 (.tmp 6) rfl (w.heap.size + 1 + 1) rfl 32 _ (0, 0) _ (unhide R2) Tryd.underlying32 rfl iB ?_
  quiet_step (exact unhide yE _ _)
  quiet_step (fail)
  quiet_step (fail)
  quiet_step (fail)
  refine wpQuiet_nil ?_
  intro w5 b5
  go_wp2
  go_ret
  exact ⟨rfl, bw.trans (b5.mono bw.size)⟩
theorem updateRights_walk (root : List UInt8) (hR : root.length = 32) (h1 : Nat) (hh1 : h1 < 4294967296) (a1 b1 : List UInt8) (la1 : a1.length = 32) (lb1 : b1.length = 32) (i : Int) (p1 p2 p3 : Option Addr) (n1 n2 n3 c1 c2 c3 : Nat) (P1 P2 P3 : List UInt8)
    (h2 : Nat) (hh2 : h2 < 4294967296) (a2 b2 : List UInt8) (la2 : a2.length = 32) (lb2 : b2.length = 32) (j : Int) (q1 q2 q3 : Option Addr) (k1 k2 k3 e1 e2 e3 : Nat) (Q1 Q2 Q3 : List UInt8)
    (h3 : Nat) (hh3 : h3 < 4294967296) (d : List UInt8) (ld : d.length = 32) (y l : Int) (x1 x2 x3 : Option Addr) (m1 m2 m3 f1 f2 f3 : Nat) (X1 X2 X3 : List UInt8) (w : World) (tabs : Tabs w)
    (D1 : Digs w (.slice p1 n1 c1) P1) (D2 : Digs w (.slice p2 n2 c2) P2) (D3 : Digs w (.slice p3 n3 c3) P3) (E1 : Digs w (.slice q1 k1 e1) Q1) (E2 : Digs w (.slice q2 k2 e2) Q2) (E3 : Digs w (.slice q3 k3 e3) Q3) (F1 : Digs w (.slice x1 m1 f1) X1) (F2 : Digs w (.slice x2 m2 f2) X2) (F3 : Digs w (.slice x3 m3 f3) X3) :
    Calls Tryd.prog 4 #[.agg (bc root), .agg (updc h1 a1 b1 #[.int .i64 i, .slice p1 n1 c1, .slice p2 n2 c2, .slice p3 n3 c3]), .agg (updc h2 a2 b2 #[.int .i64 j, .slice q1 k1 e1, .slice q2 k2 e2, .slice q3 k3 e3]), .agg (stopc h3 d y #[.int .i64 l, .slice x1 m1 f1, .slice x2 m2 f2, .slice x3 m3 f3])] w fun e w' => e = .returned (.bool true) ∧ Below w.heap.size w w' := by
  have iA := upd_info _ (updc_size h1 a1 b1 la1 lb1 #[.int .i64 i, .slice p1 n1 c1, .slice p2 n2 c2, .slice p3 n3 c3] rfl)
  have iB := upd_info _ (updc_size h2 a2 b2 la2 lb2 #[.int .i64 j, .slice q1 k1 e1, .slice q2 k2 e2, .slice q3 k3 e3] rfl)
  have iS := stop_info _ (stopc_size h3 d ld y #[.int .i64 l, .slice x1 m1 f1, .slice x2 m2 f2, .slice x3 m3 f3] rfl)
  have g1 := fun (Z : World) g h => updc_sig h1 a1 b1 la1 lb1 #[.int .i64 i, .slice p1 n1 c1, .slice p2 n2 c2, .slice p3 n3 c3] rfl Z g 32 h
  have g2 := fun (Z : World) g h => updc_sig h2 a2 b2 la2 lb2 #[.int .i64 j, .slice q1 k1 e1, .slice q2 k2 e2, .slice q3 k3 e3] rfl Z g 32 h
  have g3 := fun (Z : World) g h => stopc_sig h3 d ld y #[.int .i64 l, .slice x1 m1 f1, .slice x2 m2 f2, .slice x3 m3 f3] rfl Z g 40 h
  have cc1 := fun W => shortV_calls i p1 p2 p3 n1 n2 n3 c1 c2 c3 W
  have cc2 := fun W => shortV_calls j q1 q2 q3 k1 k2 k3 e1 e2 e3 W
  have cc3 := fun W => shortV_calls l x1 x2 x3 m1 m2 m3 f1 f2 f3 W
  have kR := fun W (hW : Below w.heap.size w W) => rightX_calls root hR h1 hh1 a1 b1 la1 i p1 p2 p3 n1 n2 n3 c1 c2 c3 P1 P2 P3 W lb1 (D1.below hW) (D2.below hW) (D3.below hW) (tabs.below hW (Nat.le_refl _))
  have kS := fun W (hW : Below w.heap.size w W) => rrightX_calls root hR h1 hh1 a1 b1 la1 i p1 p2 p3 n1 n2 n3 c1 c2 c3 P1 P2 P3 W lb1 (D1.below hW) (D2.below hW) (D3.below hW)
  have kR2 := fun W (hW : Below w.heap.size w W) => rightX_calls root hR h2 hh2 a2 b2 la2 j q1 q2 q3 k1 k2 k3 e1 e2 e3 Q1 Q2 Q3 W lb2 (E1.below hW) (E2.below hW) (E3.below hW) (tabs.below hW (Nat.le_refl _))
  have kS2 := fun W (hW : Below w.heap.size w W) => rrightX_calls root hR h2 hh2 a2 b2 la2 j q1 q2 q3 k1 k2 k3 e1 e2 e3 Q1 Q2 Q3 W lb2 (E1.below hW) (E2.below hW) (E3.below hW)
  have kH := fun W (hW : Below w.heap.size w W) => haltsX_calls root hR h3 hh3 d ld y l x1 x2 x3 m1 m2 m3 f1 f2 f3 X1 X2 X3 W (F1.below hW) (F2.below hW) (F3.below hW) (tabs.below hW (Nat.le_refl _))
  have kI := fun W (hW : Below w.heap.size w W) => rhaltsX_calls root hR h3 hh3 d ld y l x1 x2 x3 m1 m2 m3 f1 f2 f3 X1 X2 X3 W (F1.below hW) (F2.below hW) (F3.below hW)
  have kD := fun W (hW : Below w.heap.size w W) => double_calls root hR h1 h2 a1 b1 a2 b2 la1 lb1 la2 lb2 _ _ rfl rfl _ _ W (fun V hV => kR V (hW.trans (hV.mono hW.size))) (fun V hV => kR2 V (hW.trans (hV.mono hW.size)))
  have kE := fun W (hW : Below w.heap.size w W) => rdouble_calls root hR h1 h2 a1 b1 a2 b2 la1 lb1 la2 lb2 _ _ rfl rfl _ _ W (fun V hV => kS V (hW.trans (hV.mono hW.size))) (fun V hV => kS2 V (hW.trans (hV.mono hW.size)))
  cases hs1 : shV n1 n2 n3 with
  | false => exact rights_bad1 root hR _ _ _ _ _ _ iA iB iS rfl rfl rfl g1 g2 g3 _ _ _ _ _ _ w tabs cc1 cc2 cc3 kR kS kH kI kD kE hs1
  | true =>
    cases hs2 : shV k1 k2 k3 with
    | false => exact rights_bad2 root hR _ _ _ _ _ _ iA iB iS rfl rfl rfl g1 g2 g3 _ _ _ _ _ _ w tabs cc1 cc2 cc3 kR kS kH kI kD kE hs1 hs2
    | true =>
      cases hs3 : shV m1 m2 m3 with
      | false => exact rights_bad3 root hR _ _ _ _ _ _ iA iB iS rfl rfl rfl g1 g2 g3 _ _ _ _ _ _ w tabs cc1 cc2 cc3 kR kS kH kI kD kE hs1 hs2 hs3
      | true => exact rights_good root hR _ _ _ _ _ _ iA iB iS rfl rfl rfl g1 g2 g3 _ _ _ _ _ _ w tabs cc1 cc2 cc3 kR kS kH kI kD kE hs1 hs2 hs3
end Go.Proofs.YtlicadfbkjhihaaDoor

namespace Go.Proofs.YtlicadfbkjhihaaDoor
open Go.ChangeShapes Go.WideShapes Go.ChangeAt Go.RowKit

theorem shaOwn : ownKnob Tryd.prog.godebug = none := by kernel_rfl
theorem shaLaidOut : laidOutB Tryd.prog = true := by kernel_rfl
theorem gFirst : Tryd.prog.globalNamed "pontoon/sha.firstWords" = some 0 := by kernel_rfl
theorem gFirstType : (Tryd.prog.globals[0]?).map (·.type) = some 122 := by kernel_rfl
theorem gRound : Tryd.prog.globalNamed "pontoon/sha.roundWords" = some 1 := by kernel_rfl
theorem gRoundType : (Tryd.prog.globals[1]?).map (·.type) = some 150 := by kernel_rfl
theorem cells64 : Tryd.prog.cellsOf 150 = 64 := by kernel_rfl
theorem cells8 : Tryd.prog.cellsOf 122 = 8 := by kernel_rfl
theorem cellsW : Tryd.prog.cellsOf 27 = 1 := by kernel_rfl

/-- What a row lists of package sha. -/
def shaListed : List (String × DataW Unit) := [("pontoon/sha.firstWords", Rows.laid_pontoon_sha_firstWords), ("pontoon/sha.roundWords", Rows.laid_pontoon_sha_roundWords)]
def kInts : List Int := [1116352408, 1899447441, 3049323471, 3921009573, 961987163, 1508970993, 2453635748, 2870763221, 3624381080, 310598401, 607225278, 1426881987, 1925078388, 2162078206, 2614888103, 3248222580, 3835390401, 4022224774, 264347078, 604807628, 770255983, 1249150122, 1555081692, 1996064986, 2554220882, 2821834349, 2952996808, 3210313671, 3336571891, 3584528711, 113926993, 338241895, 666307205, 773529912, 1294757372, 1396182291, 1695183700, 1986661051, 2177026350, 2456956037, 2730485921, 2820302411, 3259730800, 3345764771, 3516065817, 3600352804, 4094571909, 275423344, 430227734, 506948616, 659060556, 883997877, 958139571, 1322822218, 1537002063, 1747873779, 1955562222, 2024104815, 2227730452, 2361852424, 2428436474, 2756734187, 3204031479, 3329325298]
def hInts : List Int := [1779033703, 3144134277, 1013904242, 2773480762, 1359893119, 2600822924, 528734635, 1541459225]
theorem kInts_at : ∀ j, j < 64 → kInts.getD j 0 = ((kWords.getD j 0).toNat : Int) := by decide +kernel
theorem hInts_at : ∀ j, j < 8 → hInts.getD j 0 = ((hWords.getD j 0).toNat : Int) := by decide +kernel

theorem tabs_of {W : World} (h : laidMetH Tryd.prog shaListed W) : Tabs W := by
  have h1 : Lib.TabIs Tryd.prog W "pontoon/sha.firstWords" .u32 hInts :=
    Lib.tabIs_of_head (rest := [("pontoon/sha.roundWords", Rows.laid_pontoon_sha_roundWords)]) gFirst gFirstType Tryd.underlying122 Tryd.underlying27 cellsW cells8 h
  have e : shaListed.filter (fun x => x.1 == "pontoon/sha.roundWords") = [("pontoon/sha.roundWords", Rows.laid_pontoon_sha_roundWords)] := by kernel_rfl
  have hf := h.filter (fun x => x.1 == "pontoon/sha.roundWords")
  rw [e] at hf
  have h2 : Lib.TabIs Tryd.prog W "pontoon/sha.roundWords" .u32 kInts :=
    Lib.tabIs_of_head (rest := []) gRound gRoundType Tryd.underlying150 Tryd.underlying27 cellsW cells64 hf
  have k : ∀ j, j < 64 → W.cell? ⟨1, j, none⟩ = some (.int .u32 ((kWords.getD j 0).toNat : Int)) := fun j hj => by
    rw [← kInts_at j hj]; exact h2.cell gRound j (by simpa [kInts] using hj)
  have hh : ∀ j, j < 8 → W.cell? ⟨0, j, none⟩ = some (.int .u32 ((hWords.getD j 0).toNat : Int)) := fun j hj => by
    rw [← hInts_at j hj]; exact h1.cell gFirst j (by simpa [hInts] using hj)
  exact ⟨⟨block_lt_of_cell (hh 0 (by decide)), block_lt_of_cell (k 0 (by decide))⟩, k, hh⟩

/-- A variable's cells turned. -/
def layCells (cs : Array Value) : Obj → Obj
  | .cells _ t frozen => .cells cs t frozen
  | o => o
def hCells : Array Value := #[.int .u32 1779033703, .int .u32 3144134277, .int .u32 1013904242, .int .u32 2773480762, .int .u32 1359893119, .int .u32 2600822924, .int .u32 528734635, .int .u32 1541459225]
def kCells : Array Value := #[.int .u32 1116352408, .int .u32 1899447441, .int .u32 3049323471, .int .u32 3921009573, .int .u32 961987163, .int .u32 1508970993, .int .u32 2453635748, .int .u32 2870763221, .int .u32 3624381080, .int .u32 310598401, .int .u32 607225278, .int .u32 1426881987, .int .u32 1925078388, .int .u32 2162078206, .int .u32 2614888103, .int .u32 3248222580, .int .u32 3835390401, .int .u32 4022224774, .int .u32 264347078, .int .u32 604807628, .int .u32 770255983, .int .u32 1249150122, .int .u32 1555081692, .int .u32 1996064986, .int .u32 2554220882, .int .u32 2821834349, .int .u32 2952996808, .int .u32 3210313671, .int .u32 3336571891, .int .u32 3584528711, .int .u32 113926993, .int .u32 338241895, .int .u32 666307205, .int .u32 773529912, .int .u32 1294757372, .int .u32 1396182291, .int .u32 1695183700, .int .u32 1986661051, .int .u32 2177026350, .int .u32 2456956037, .int .u32 2730485921, .int .u32 2820302411, .int .u32 3259730800, .int .u32 3345764771, .int .u32 3516065817, .int .u32 3600352804, .int .u32 4094571909, .int .u32 275423344, .int .u32 430227734, .int .u32 506948616, .int .u32 659060556, .int .u32 883997877, .int .u32 958139571, .int .u32 1322822218, .int .u32 1537002063, .int .u32 1747873779, .int .u32 1955562222, .int .u32 2024104815, .int .u32 2227730452, .int .u32 2361852424, .int .u32 2428436474, .int .u32 2756734187, .int .u32 3204031479, .int .u32 3329325298]
/-- A world for the witness: the settled one, the two tables holding what their initialisers lay. -/
noncomputable def shaWorld (os : Os) : World :=
  { World.holding Tryd.prog os ⟨#[], #[], []⟩ with heap := ((World.holding Tryd.prog os ⟨#[], #[], []⟩).heap.modify 0 (layCells hCells)).modify 1 (layCells kCells) }
theorem addr_add (b o j : Nat) : (⟨b, o, none⟩ : Addr).add j = ⟨b, o + j, none⟩ := by unfold Addr.add; split <;> simp_all

end Go.Proofs.YtlicadfbkjhihaaDoor

namespace Go.Proofs.YtlicadfbkjhihaaDoor
open Go.ChangeShapes Go.WideShapes Go.ChangeAt Go.RowKit

theorem mapM_ints {H : Type} {enc : TypeId × Value → H} {P : Program} {W : World} {base : Nat} {sp : Nat → Bool} {held : Bool} {e : TypeId} {q : IntKind} (he : P.underlying e = some (.int q)) {m : Nat} {cs : List Value} {c : Nat} :
    ∀ (L : List Nat) (xs : List (DataW H × List MemPlace)), L.mapM (fun i => DataW.trod enc P W base sp held m e ((cs.drop (i * c)).take c)) = some xs → ∀ i ∈ L, ∃ a, (cs.drop (i * c)).take c = [.int q a] ∧ (Lit.int q a).wf = true
  | [], xs, h => by intro i hi; cases hi
  | i :: L, xs, h => by
    rw [List.mapM_cons] at h
    simp only [bind, Option.bind_eq_some_iff, pure, Option.some.injEq] at h
    obtain ⟨y, hy, ys, hys, rfl⟩ := h
    intro j hj
    rcases List.mem_cons.1 hj with rfl | hj
    · obtain ⟨a, ea, _, wa⟩ := DataW.trod_int he hy
      exact ⟨a, ea, wa⟩
    · exact mapM_ints he L ys hys j hj
/-- The numbers of an array that came in. -/
theorem open_numbers {H : Type} {enc : TypeId × Value → H} {P : Program} {W : World} {base : Nat} {sp : Nat → Bool} {held : Bool} {k e : TypeId} {n : Nat} {q : IntKind} (A : WideMaps.ArrKey P k e n) (he : P.underlying e = some (.int q))
    {xs : Array Value} (hn : xs.size = n) {d : DataW H} {ps : List MemPlace} (hd : DataW.Trod enc P W base sp held k (.agg xs) d ps) :
    ∃ zs : List Int, zs.length = n ∧ xs = (zs.map (Value.int q)).toArray ∧ ∀ z ∈ zs, (Lit.int q z).wf = true := by
  obtain ⟨fuel, hf⟩ := hd
  cases fuel with
  | zero => simp [DataW.trod] at hf
  | succ m =>
    rw [DataW.trod_step] at hf
    unfold DataW.trodStep at hf
    simp only [A.hu, Value.cells] at hf
    rw [if_pos (by rw [A.size]; simpa using hn)] at hf
    simp only [Option.map_eq_some_iff] at hf
    obtain ⟨ys, hy, e1⟩ := hf
    have hc := mapM_ints he _ ys hy
    rw [A.one] at hc
    have hc' : ∀ i, i < n → ∃ a, xs.toList[i]? = some (.int q a) ∧ (Lit.int q a).wf = true := fun i hi => by
      obtain ⟨a, ha, hw⟩ := hc i (List.mem_range.2 hi)
      refine ⟨a, ?_, hw⟩
      rw [Nat.mul_one] at ha
      have h0 : ((xs.toList.drop i).take 1)[0]? = some (.int q a) := by rw [ha]; rfl
      simpa using h0
    refine ⟨xs.toList.map intOf, by simpa using hn, ?_, ?_⟩
    · apply Array.ext'
      simp only [List.map_map]
      apply List.ext_getElem?
      intro i
      by_cases hi : i < n
      · obtain ⟨a, ha, _⟩ := hc' i hi
        rw [ha]; simp [ha, intOf]
      · rw [List.getElem?_eq_none (by simpa [hn] using Nat.le_of_not_lt hi), List.getElem?_eq_none (by simpa [hn] using Nat.le_of_not_lt hi)]
    · intro z hz
      obtain ⟨v, hv, rfl⟩ := List.mem_map.1 hz
      obtain ⟨i, hi, rfl⟩ := List.getElem_of_mem hv
      obtain ⟨a, ha, hw⟩ := hc' i (by simpa [hn] using hi)
      rw [List.getElem?_eq_getElem hi] at ha
      rw [Option.some.inj ha]; exact hw
end Go.Proofs.YtlicadfbkjhihaaDoor

namespace Go.Proofs.YtlicadfbkjhihaaDoor
open Go.ChangeShapes Go.WideShapes Go.ChangeAt Go.RowKit
set_option linter.unusedVariables false

theorem arrD : WideMaps.ArrKey Tryd.prog 23 5 32 := ⟨Tryd.underlying23, by kernel_rfl, by kernel_rfl, by kernel_rfl⟩
theorem open_digest {H : Type} {enc : TypeId × Value → H} {W : World} {base : Nat} {sp : Nat → Bool} {held : Bool} {xs : Array Value} (hn : xs.size = 32) {d : DataW H} {ps : List MemPlace} (hd : DataW.Trod enc Tryd.prog W base sp held 23 (.agg xs) d ps) :
    ∃ l : List UInt8, xs = bc l ∧ l.length = 32 := by
  obtain ⟨zs, hl, rfl, hw⟩ := open_numbers arrD Tryd.underlying5 hn hd
  have e : ∀ z ∈ zs, ((UInt8.ofNat z.toNat).toNat : Int) = z := fun z hz => by
    have := hw z hz
    simp [Lit.wf, IntKind.min, IntKind.max, IntKind.signed, IntKind.bits] at this
    rw [UInt8.toNat_ofNat']; omega
  refine ⟨zs.map fun z => UInt8.ofNat z.toNat, ?_, by simpa using hl⟩
  unfold bc Lib.byteCells
  rw [List.map_map]
  congr 1
  apply List.map_congr_left
  intro z hz
  simp only [Function.comp_apply]
  rw [e z hz]
/-- A list of digests that came in. -/
theorem open_digs {H : Type} {enc : TypeId × Value → H} {W : World} {base : Nat} {sp : Nat → Bool} {held : Bool} {fuel : Nat} {cs : List Value} {x : DataW H × List MemPlace} (h : DataW.trod enc Tryd.prog W base sp held fuel 24 cs = some x) :
    ∃ p n cap l, cs = [.slice p n cap] ∧ Digs W (.slice p n cap) l ∧ n ≤ maxLen := by
  have hc : Tryd.prog.cellsOf 23 = 32 := by kernel_rfl
  rcases Deep.open_slice Tryd.underlying24 h with ⟨rfl, _⟩ | ⟨a, len, cap, m, n, D, Pl, rfl, hb, hlc, hcm, hm, hx, hel⟩
  · exact ⟨none, 0, 0, [], rfl, ⟨none, 0, 0, rfl, rfl, fun hn => by omega⟩, by simp [maxLen]⟩
  · have hlm : len ≤ m := by rw [hm]; split <;> omega
    rw [hc] at hel
    have hcell : ∀ j, j < 32 * len → ∃ b : UInt8, W.cell? (a.add j) = some (.int .u8 (b.toNat : Int)) := fun j hj => by
      obtain ⟨cs', h1, h2⟩ := hel (j / 32) (by omega)
      obtain ⟨h3, h4, h5⟩ := World.cells?_some h1
      obtain ⟨l, hl, hll⟩ := open_digest (xs := cs'.toArray) (by simpa using h4) ⟨n, h2⟩
      have hr : j % 32 < 32 := Nat.mod_lt _ (by decide)
      have h6 := bc_at l (j % 32) (by omega)
      rw [← hl] at h6
      refine ⟨l.getD (j % 32) 0, ?_⟩
      have h7 := h5 (j % 32) hr
      rw [Deep.add_add, show j / 32 * 32 + j % 32 = j by omega] at h7
      rw [h7]; simpa using h6
    refine ⟨some a, len, cap, (List.range (32 * len)).map fun j => match W.cell? (a.add j) with | some (.int .u8 z) => UInt8.ofNat z.toNat | _ => 0, rfl, ⟨some a, len, cap, rfl, by simp, fun hn => ?_⟩, by omega⟩
    obtain ⟨b, off, spot⟩ := a
    obtain ⟨b0, hb0⟩ := hcell 0 (by omega)
    have hspot : spot = none := by simpa [Addr.add] using World.cell?_spot hb0
    subst hspot
    refine ⟨b, off, rfl, ?_, fun j hj => ?_⟩
    · have := block_lt_of_cell hb0; simpa [Addr.add] using this
    · have hj' : j < 32 * len := by simpa using hj
      obtain ⟨bj, hbj⟩ := hcell j hj'
      have e : (⟨b, off, none⟩ : Addr).add j = ⟨b, off + j, none⟩ := by unfold Addr.add; split <;> simp_all
      rw [e] at hbj
      rw [hbj]
      simp [hj', e, hbj]
/-- A signature that came in. -/
theorem open_sig {H : Type} {enc : TypeId × Value → H} {W : World} {base : Nat} {sp : Nat → Bool} {held : Bool} {cs : Array Value} (hn : cs.size = 4) {d : DataW H} {ps : List MemPlace} (hd : DataW.Trod enc Tryd.prog W base sp held 30 (.agg cs) d ps) :
    ∃ i p1 n1 c1 l1 p2 n2 c2 l2 p3 n3 c3 l3, cs = #[.int .i64 i, .slice p1 n1 c1, .slice p2 n2 c2, .slice p3 n3 c3] ∧ (Lit.int .i64 i).wf = true ∧ Digs W (.slice p1 n1 c1) l1 ∧ Digs W (.slice p2 n2 c2) l2 ∧ Digs W (.slice p3 n3 c3) l3 ∧ n1 ≤ maxLen ∧ n2 ≤ maxLen ∧ n3 ≤ maxLen := by
  obtain ⟨fuel, hf⟩ := hd
  have h3 : Tryd.prog.cellsOf 3 = 1 := by kernel_rfl
  have h25 : Tryd.prog.cellsOf 24 = 1 := by kernel_rfl
  match cs, hn with
  | ⟨[c0, c1, c2, c3]⟩, _ =>
    obtain ⟨y0, y1, y2, y3, n, hx, hl, h0, h1, h2, h4⟩ := Go.Joins.trod_struct4 Tryd.underlying30 hf
    simp only [h3, h25, Value.cells, List.drop_zero, List.take_succ_cons, List.take_zero, List.drop_succ_cons] at h0 h1 h2 h4
    obtain ⟨a, ha, _, hw⟩ := DataW.trod_int Tryd.underlying3 h0
    obtain ⟨p1, n1, k1, l1, e1, D1, m1⟩ := open_digs h1
    obtain ⟨p2, n2, k2, l2, e2, D2, m2⟩ := open_digs h2
    obtain ⟨p3, n3, k3, l3, e3, D3, m3⟩ := open_digs h4
    simp only [List.cons.injEq, and_true] at ha e1 e2 e3
    subst ha e1 e2 e3
    exact ⟨a, p1, n1, k1, l1, p2, n2, k2, l2, p3, n3, k3, l3, rfl, hw, D1, D2, D3, m1, m2, m3⟩
end Go.Proofs.YtlicadfbkjhihaaDoor

namespace Go.Proofs.YtlicadfbkjhihaaDoor
open Go.ChangeShapes Go.WideShapes Go.ChangeAt Go.RowKit
set_option linter.unusedVariables false

theorem arr_of {c : Array Value} {L : List Value} (h : c.toList = L) : c = L.toArray := by rw [← h]
set_option maxRecDepth 100000 in
theorem open_upd {H : Type} {enc : TypeId × Value → H} {W : World} {base : Nat} {sp : Nat → Bool} {held : Bool} {cs : Array Value} (hn : cs.size = 69) {d : DataW H} {ps : List MemPlace} (hd : DataW.Trod enc Tryd.prog W base sp held 32 (.agg cs) d ps) :
    ∃ home a b i p1 n1 c1 l1 p2 n2 c2 l2 p3 n3 c3 l3, cs = updc home a b #[.int .i64 i, .slice p1 n1 c1, .slice p2 n2 c2, .slice p3 n3 c3] ∧ home < 4294967296 ∧ a.length = 32 ∧ b.length = 32 ∧ (Lit.int .i64 i).wf = true ∧ Digs W (.slice p1 n1 c1) l1 ∧ Digs W (.slice p2 n2 c2) l2 ∧ Digs W (.slice p3 n3 c3) l3 ∧ n1 ≤ maxLen ∧ n2 ≤ maxLen ∧ n3 ≤ maxLen := by
  obtain ⟨fuel, hf⟩ := hd
  have e0 : Tryd.prog.cellsOf 27 = 1 := by kernel_rfl
  have e1 : Tryd.prog.cellsOf 23 = 32 := by kernel_rfl
  have e2 : Tryd.prog.cellsOf 30 = 4 := by kernel_rfl
  obtain ⟨y0, y1, y2, y3, n, hx, hl, h0, h1, h2, h4⟩ := Go.Joins.trod_struct4 Tryd.underlying32 hf
  simp only [e0, e1, e2, Value.cells] at h0 h1 h2 h4
  have hL : cs.toList.length = 69 := by simpa using hn
  generalize hcs : cs.toList = L at *
  obtain ⟨h, ha, _, hw⟩ := DataW.trod_int Tryd.underlying27 h0
  obtain ⟨a, ea, la⟩ := open_digest (xs := ((L.drop 1).take 32).toArray) (by simp; omega) ⟨n, h1⟩
  obtain ⟨b, eb, lb⟩ := open_digest (xs := ((L.drop 33).take 32).toArray) (by simp; omega) ⟨n, h2⟩
  obtain ⟨i, p1, n1, c1, l1, p2, n2, c2, l2, p3, n3, c3, l3, es, hwi, D1, D2, D3, m1, m2, m3⟩ := open_sig (cs := ((L.drop 65).take 4).toArray) (by simp; omega) ⟨n, h4⟩
  simp [Lit.wf, IntKind.min, IntKind.max, IntKind.signed, IntKind.bits] at hw
  obtain ⟨home, rfl⟩ := Int.eq_ofNat_of_zero_le hw.1
  refine ⟨home, a, b, i, p1, n1, c1, l1, p2, n2, c2, l2, p3, n3, c3, l3, ?_, by omega, la, lb, hwi, D1, D2, D3, m1, m2, m3⟩
  have hsplit : L = (L.drop 0).take 1 ++ ((L.drop 1).take 32 ++ ((L.drop 33).take 32 ++ (L.drop 65).take 4)) := by
    rw [List.drop_zero]
    conv => lhs; rw [← List.take_append_drop 1 L, ← List.take_append_drop 32 (L.drop 1), List.drop_drop, ← List.take_append_drop 32 (L.drop (1 + 32)), List.drop_drop]
    rw [List.take_of_length_le (l := L.drop 65) (by rw [List.length_drop]; omega)]
  have f1 : (L.drop 1).take 32 = (bc a).toList := by rw [← ea]
  have f2 : (L.drop 33).take 32 = (bc b).toList := by rw [← eb]
  have f3 : (L.drop 65).take 4 = [.int .i64 i, .slice p1 n1 c1, .slice p2 n2 c2, .slice p3 n3 c3] := by
    have := congrArg Array.toList es; simpa using this
  rw [ha, f1, f2, f3] at hsplit
  rw [arr_of hcs, hsplit]
  unfold updc
  apply Array.toList_inj.1
  simp
set_option maxRecDepth 100000 in
theorem open_stop {H : Type} {enc : TypeId × Value → H} {W : World} {base : Nat} {sp : Nat → Bool} {held : Bool} {cs : Array Value} (hn : cs.size = 38) {d : DataW H} {ps : List MemPlace} (hd : DataW.Trod enc Tryd.prog W base sp held 40 (.agg cs) d ps) :
    ∃ home a x i p1 n1 c1 l1 p2 n2 c2 l2 p3 n3 c3 l3, cs = stopc home a x #[.int .i64 i, .slice p1 n1 c1, .slice p2 n2 c2, .slice p3 n3 c3] ∧ home < 4294967296 ∧ a.length = 32 ∧ (Lit.int .i64 x).wf = true ∧ (Lit.int .i64 i).wf = true ∧ Digs W (.slice p1 n1 c1) l1 ∧ Digs W (.slice p2 n2 c2) l2 ∧ Digs W (.slice p3 n3 c3) l3 ∧ n1 ≤ maxLen ∧ n2 ≤ maxLen ∧ n3 ≤ maxLen := by
  obtain ⟨fuel, hf⟩ := hd
  have e0 : Tryd.prog.cellsOf 27 = 1 := by kernel_rfl
  have e1 : Tryd.prog.cellsOf 23 = 32 := by kernel_rfl
  have e2 : Tryd.prog.cellsOf 30 = 4 := by kernel_rfl
  have e3 : Tryd.prog.cellsOf 3 = 1 := by kernel_rfl
  obtain ⟨y0, y1, y2, y3, n, hx, hl, h0, h1, h2, h4⟩ := Go.Joins.trod_struct4 Tryd.underlying40 hf
  simp only [e0, e1, e2, e3, Value.cells] at h0 h1 h2 h4
  have hL : cs.toList.length = 38 := by simpa using hn
  generalize hcs : cs.toList = L at *
  obtain ⟨h, ha, _, hw⟩ := DataW.trod_int Tryd.underlying27 h0
  obtain ⟨a, ea, la⟩ := open_digest (xs := ((L.drop 1).take 32).toArray) (by simp; omega) ⟨n, h1⟩
  obtain ⟨x, hxx, _, hwx⟩ := DataW.trod_int Tryd.underlying3 h2
  obtain ⟨i, p1, n1, c1, l1, p2, n2, c2, l2, p3, n3, c3, l3, es, hwi, D1, D2, D3, m1, m2, m3⟩ := open_sig (cs := ((L.drop 34).take 4).toArray) (by simp; omega) ⟨n, h4⟩
  simp [Lit.wf, IntKind.min, IntKind.max, IntKind.signed, IntKind.bits] at hw
  obtain ⟨home, rfl⟩ := Int.eq_ofNat_of_zero_le hw.1
  refine ⟨home, a, x, i, p1, n1, c1, l1, p2, n2, c2, l2, p3, n3, c3, l3, ?_, by omega, la, hwx, hwi, D1, D2, D3, m1, m2, m3⟩
  have hsplit : L = (L.drop 0).take 1 ++ ((L.drop 1).take 32 ++ ((L.drop 33).take 1 ++ (L.drop 34).take 4)) := by
    rw [List.drop_zero]
    conv => lhs; rw [← List.take_append_drop 1 L, ← List.take_append_drop 32 (L.drop 1), List.drop_drop, ← List.take_append_drop 1 (L.drop (1 + 32)), List.drop_drop]
    rw [List.take_of_length_le (l := L.drop 34) (by rw [List.length_drop]; omega)]
  have f1 : (L.drop 1).take 32 = (bc a).toList := by rw [← ea]
  have f3 : (L.drop 34).take 4 = [.int .i64 i, .slice p1 n1 c1, .slice p2 n2 c2, .slice p3 n3 c3] := by
    have := congrArg Array.toList es; simpa using this
  rw [ha, f1, hxx, f3] at hsplit
  rw [arr_of hcs, hsplit]
  unfold stopc
  apply Array.toList_inj.1
  simp
end Go.Proofs.YtlicadfbkjhihaaDoor
