/-
  MerkleBinds: what any branch proves under a root, at any place, is the leaf that stands there, unless two inputs clash.
-/
/-
  WHAT THE ROWS OF LAYER 1 LIST GIVES THE WALKS: the two tables of package sha, read as the program's text lays them.
-/
/-
  ARRAYS OF NUMBERS AS ARGUMENTS: what a row hands the walks. Over whatever program.
-/
/-
  A DIGEST AS THE ARGUMENT OF A ROW.
-/
/-
  LISTS OF DIGESTS AS ARGUMENTS: what a row hands the walks.
-/
import Derived.Test.YtljgfpdajodfcaaDoorJ5
import Derived.Test.YtljgfpdajodfcaaDoorJ0
import Derived.Test.YtljgfpdajodfcaaDoorCards
import Derived.Test.YtljgfpdajodfcaaDoorTie
import Derived.ProofKit
import Derived.OpenShut
import Derived.Deep.DeepHandedRow
import Derived.Lib.LaidTab
import Derived.WideKeyArr2
import Derived.ChangeMaps5
import Derived.Deep.Slices
import Derived.Lib.SmallJoins
import Derived.Test.YtljgfpdajodfcaaDoorJ3
namespace Go.Proofs.YtljgfpdajodfcaaDoor
open Go Go.RowKit
set_option linter.unusedSimpArgs false
set_option linter.unusedVariables false

theorem pOfD_lengthQ (ds : List (List UInt8)) (h : ∀ d ∈ ds, d.length = 32) : (pOfD ds).length = 32 := by
  have e32 : pOfD ds = st (ds.take 4096) 32 0 := by unfold pOfD; rw [stand_st]
  rw [e32]
  exact st_lengthQ _ (fun d hd => h d (List.mem_of_mem_take hd)) 32 0
theorem wpList_eql_gm {P : Program} {ops : Array Oper} {rest : List Oper} {o : Oper} {a : Act} {w : World} {Q : Exit → Act → World → Prop} (hw : Region.wanted o (yielded ops a.tmps) = true) (t t' : TypeId) (x y : Operand) (ho : o.op = .binOp .eql t x y t')
    (u v : Array Value) (hx : a.eval x = .agg u) (hy : a.eval y = .agg v) (hgt : P.eqGuardType P.depth t = false) (b : Bool) (he : ∀ w, (binOp .eql t (.agg u) (.agg v)).run P w = .ok (.bool b) w)
    (h : wpList P ops Q rest (a.put o.dst (.bool b)) w) : wpList P ops Q (o :: rest) a w :=
  wpList_step fun K hK => by
    rw [if_pos hw]
    have hg : (eqGuard .eql t x y (.agg u) (.agg v)).run P w = .ok () w := run_eqGuard_agg w .eql t x y u v hgt
    unfold Oper.wp execOp
    simp only [ho, hx, hy, Sem.run_bind, hg, Result.andThen_ok, he]
    exact hK _ _ h
set_option maxHeartbeats 4000000 in
set_option maxRecDepth 100000 in
theorem merkleBinds_d1 (ds : List (List UInt8)) (p : Option Addr) (cap : Nat) (hcap : ds.length ≤ cap) (leaf : List UInt8) (hl : leaf.length = 32) (x : Nat) (hx : x < 4294967296) (br : List (List UInt8)) (pb : Option Addr) (cb : Nat) (w : World) (hD : DL w p ds) (hB : DL w pb br) (tabs : Tabs w) (hd : 40 < ds.length) :
    Calls Tryd.prog 3 #[.slice p ds.length cap, .agg (bc leaf), .int .u32 (x : Int), .slice pb br.length cb] w fun e w' => e = .returned (.bool true) ∧ Below w.heap.size w w' := by
  have q0 := al1 w (.cells (bc leaf) 24)
  have b0 := (Below.refl w.heap.size w).alloc (Nat.le_refl _) (.cells (bc leaf) 24)
  have A := hide fun W t => mawake_calls W t
  have HT := hide tabs
  have d1 : decide ((40 : Int) < (ds.length : Int)) = true := by simp; omega
  obtain ⟨X, hX⟩ : ∃ X, w.alloc (.cells (bc leaf) 24) = X := ⟨_, rfl⟩
  rw [hX] at b0
  have HX := hide hX
  generalize ds.length = nd at *
  generalize br.length = nb at *
  clear hX hD hB hcap tabs q0
  go_enter Tryd.func3, Tryd.ntmps3
  go_wp2_with (rw [unhide HX])
  refine (unhide A _ ((unhide HT).below b0 (Nat.le_refl _))).mono ?_
  rintro e w1 ⟨rfl, b1⟩
  have hb1 := b0.trans (b1.mono b0.size)
  go_wp2_with fail
  refine (unhide A _ ((unhide HT).below hb1 (Nat.le_refl _))).mono ?_
  rintro e w2 ⟨rfl, b2⟩
  have hb2 := hb1.trans (b2.mono hb1.size)
  go_wp2_with fail
  go_ret
  exact ⟨rfl, hb2⟩
set_option maxHeartbeats 4000000 in
set_option maxRecDepth 100000 in
theorem merkleBinds_d2 (ds : List (List UInt8)) (p : Option Addr) (cap : Nat) (hcap : ds.length ≤ cap) (leaf : List UInt8) (hl : leaf.length = 32) (x : Nat) (hx : x < 4294967296) (br : List (List UInt8)) (pb : Option Addr) (cb : Nat) (w : World) (hD : DL w p ds) (hB : DL w pb br) (tabs : Tabs w) (hd : ds.length ≤ 40 ∧ 100 < br.length) :
    Calls Tryd.prog 3 #[.slice p ds.length cap, .agg (bc leaf), .int .u32 (x : Int), .slice pb br.length cb] w fun e w' => e = .returned (.bool true) ∧ Below w.heap.size w w' := by
  have q0 := al1 w (.cells (bc leaf) 24)
  have b0 := (Below.refl w.heap.size w).alloc (Nat.le_refl _) (.cells (bc leaf) 24)
  have A := hide fun W t => mawake_calls W t
  have HT := hide tabs
  have d1 : decide ((40 : Int) < (ds.length : Int)) = false := by obtain ⟨h1, h2⟩ := hd; simp; omega
  have d2 : decide ((100 : Int) < (br.length : Int)) = true := by obtain ⟨h1, h2⟩ := hd; simp; omega
  obtain ⟨X, hX⟩ : ∃ X, w.alloc (.cells (bc leaf) 24) = X := ⟨_, rfl⟩
  rw [hX] at b0
  have HX := hide hX
  generalize ds.length = nd at *
  generalize br.length = nb at *
  clear hX hD hB hcap tabs q0
  go_enter Tryd.func3, Tryd.ntmps3
  go_wp2_with (rw [unhide HX])
  refine (unhide A _ ((unhide HT).below b0 (Nat.le_refl _))).mono ?_
  rintro e w1 ⟨rfl, b1⟩
  have hb1 := b0.trans (b1.mono b0.size)
  go_wp2_with fail
  refine (unhide A _ ((unhide HT).below hb1 (Nat.le_refl _))).mono ?_
  rintro e w2 ⟨rfl, b2⟩
  have hb2 := hb1.trans (b2.mono hb1.size)
  go_wp2_with fail
  go_ret
  exact ⟨rfl, hb2⟩
set_option maxHeartbeats 8000000 in
set_option maxRecDepth 100000 in
theorem merkleBinds_no (ds : List (List UInt8)) (p : Option Addr) (cap : Nat) (hcap : ds.length ≤ cap) (leaf : List UInt8) (hl : leaf.length = 32) (x : Nat) (hx : x < 4294967296) (br : List (List UInt8)) (pb : Option Addr) (cb : Nat) (w : World) (hD : DL w p ds) (hB : DL w pb br) (tabs : Tabs w) (l1 : ds.length ≤ 40) (l2 : br.length ≤ 100) (hp : pProves (pOfD ds) leaf x br = false) :
    Calls Tryd.prog 3 #[.slice p ds.length cap, .agg (bc leaf), .int .u32 (x : Int), .slice pb br.length cb] w fun e w' => e = .returned (.bool true) ∧ Below w.heap.size w w' := by
  have q0 := al1 w (.cells (bc leaf) 24)
  have b0 := (Below.refl w.heap.size w).alloc (Nat.le_refl _) (.cells (bc leaf) 24)
  have A := hide fun W t => mawake_calls W t
  have HT := hide tabs
  have d1 : decide ((40 : Int) < (ds.length : Int)) = false := by simp; omega
  have d2 : decide ((100 : Int) < (br.length : Int)) = false := by simp; omega
  have hil := digInfo leaf hl
  have hol := pOfD_lengthQ ds hD.1
  have hir := digInfo (pOfD ds) hol
  have hzr := zeroSize (pOfD ds) hol
  have hor := bc_oneCell (pOfD ds)
  have CO := hide fun L S I hI W hL hO hD => rof7Q_calls ds p cap hcap (by omega) L S I hI W hL hO hD
  have CP := hide fun W hB t => proves_calls (pOfD ds) leaf hol hl x hx br pb cb (by omega) W hB t
  have CC := hide fun L S I hI W hL hO hB => rclimbQ_calls leaf hl x hx br pb cb (by omega) L S I hI W hL hO hB
  rw [hp] at CP
  have HD0 := hide hD
  have HB0 := hide hB
  have Hx := hide hx
  have Hl := hide hl
  obtain ⟨X, hX⟩ : ∃ X, w.alloc (.cells (bc leaf) 24) = X := ⟨_, rfl⟩
  rw [hX] at q0 b0
  have HX := hide hX
  obtain ⟨R, hR⟩ : ∃ R, pOfD ds = R := ⟨_, rfl⟩
  rw [hR] at CO CP hir hzr hor
  clear hX hR tabs hD hB hcap hol hp hl hx
  go_enter Tryd.func3, Tryd.ntmps3
  go_wp2_with (rw [unhide HX])
  refine (unhide A _ ((unhide HT).below b0 (Nat.le_refl _))).mono ?_
  rintro e w1 ⟨rfl, b1⟩
  have hb1 := b0.trans (b1.mono b0.size)
  have q1 := Below.at b1 (Array.getElem?_eq_some_iff.1 q0).1 q0
  have zN1 := hide (Array.getElem?_eq_some_iff.1 q1).1
  have D1 := hide ((unhide HD0).below hb1 (Nat.le_refl _))
  have B1 := hide ((unhide HB0).below hb1 (Nat.le_refl _))
  have T1 := hide ((unhide HT).below hb1 (Nat.le_refl _))
  have HB1 := hide hb1
  have Q1 := hide q1
  clear q0 q1 b0 b1 hb1
  go_wp2_with fail
  refine (rnewLog_calls _).mono ?_
  rintro e w4 ⟨rfl, hL4, b4, z4⟩
  obtain ⟨L, hLL⟩ : ∃ B, w1.heap.size + 1 = B := ⟨_, rfl⟩
  obtain ⟨S4, hS4⟩ : ∃ S : Nat → Prop, (fun k => w1.heap.size ≤ k ∧ k < w1.heap.size + 2) = S := ⟨_, rfl⟩
  have HS4 : Hid (∀ k, S4 k → w1.heap.size ≤ k) := hide fun k h => by rw [← hS4] at h; exact h.1
  rw [hLL, hS4] at hL4
  rw [hLL]
  have L4 := hide hL4
  have B4 := hide b4
  have zz4 : w1.heap.size ≤ w4.heap.size := b4.size
  have OD : Hid (∀ (S : Nat → Prop), (∀ k, S k → w1.heap.size ≤ k) → ds ≠ [] → Out p S) := hide fun S hS hne a e h => by
    obtain ⟨b, off, e2, hlt, _⟩ := (unhide D1).2 hne
    rw [e2] at e
    cases e
    have := hS _ h
    have hlt' : b < w1.heap.size := hlt
    have h9 : w1.heap.size ≤ b := this
    omega
  have OB : Hid (∀ (S : Nat → Prop), (∀ k, S k → w1.heap.size ≤ k) → br ≠ [] → Out pb S) := hide fun S hS hne a e h => by
    obtain ⟨b, off, e2, hlt, _⟩ := (unhide B1).2 hne
    rw [e2] at e
    cases e
    have := hS _ h
    have hlt' : b < w1.heap.size := hlt
    have h9 : w1.heap.size ≤ b := this
    omega
  clear hL4 b4 z4 hLL hS4
  go_wp2_with fail
  refine (unhide CO L S4 [] (by simp) _ (unhide L4) (unhide OD S4 (unhide HS4)) ((unhide D1).below (unhide B4) (Nat.le_refl _))).mono ?_
  rintro e w5 ⟨rfl, S5, I5, hL5, bu5, hs5, _, nt5, le5⟩
  have HS5 : Hid (∀ k, S5 k → w1.heap.size ≤ k) := hide fun k h => (hs5 k h).elim (unhide HS4 k) (Nat.le_trans zz4)
  have B5 := hide ((unhide B4).trans (bu5.to_below w1.heap.size (unhide HS4) zz4))
  have zz5 : w1.heap.size ≤ w5.heap.size := (unhide B5).size
  have L5 := hide hL5
  have NT5 := hide nt5
  have LE5 := hide le5
  clear hL5 bu5 hs5 nt5 le5
  have hZ : (bc (List.replicate 32 (0 : UInt8))).size = (bc R).size := hzr
  go_upto_region 7 with (refine wpList_store_new rfl 24 (.tmp 10) (.tmp 26) rfl w5 _ _ R rfl rfl hir hzr ?_; intro w6 q10 b6 y6)
  have B6 := hide ((unhide B5).trans (b6.mono zz5))
  have L6 := hide ((unhide L5).below b6)
  have Q10 := hide q10
  have q6 := Below.at (unhide B6) (unhide zN1) (unhide Q1)
  clear q10 b6 y6
  have q10 := unhide Q10
  go_wp2_with (first
    | (refine wpList_load_row rfl 24 (.tmp 10) rfl w5.heap.size rfl 24 _ (0, 0) _ q10 Tryd.underlying24 rfl hir ?_)
    | (refine wpList_load_row rfl 24 (.tmp 5) rfl w.heap.size rfl 24 _ (0, 0) _ q6 Tryd.underlying24 rfl hil ?_))
  refine (unhide CP _ ((unhide B1).below (unhide B6) (Nat.le_refl _)) ((unhide T1).below (unhide B6) (Nat.le_refl _))).mono ?_
  rintro e w7 ⟨rfl, b7⟩
  have zz6 : w1.heap.size ≤ w6.heap.size := (unhide B6).size
  have B7 := hide ((unhide B6).trans (b7.mono zz6))
  have L7 := hide ((unhide L6).below b7)
  have q7 := Below.at (unhide B7) (unhide zN1) (unhide Q1)
  clear b7 q6 q10
  go_wp2_with fail
  refine (unhide A _ ((unhide T1).below (unhide B7) (Nat.le_refl _))).mono ?_
  rintro e w8 ⟨rfl, b8⟩
  go_wp2_with fail
  go_ret
  exact ⟨rfl, (unhide HB1).trans (((unhide B7).trans (b8.mono (unhide B7).size)).mono (unhide HB1).size)⟩
set_option maxHeartbeats 8000000 in
set_option maxRecDepth 100000 in
theorem merkleBinds_11 (ds : List (List UInt8)) (p : Option Addr) (cap : Nat) (hcap : ds.length ≤ cap) (leaf : List UInt8) (hl : leaf.length = 32) (x : Nat) (hx : x < 4294967296) (br : List (List UInt8)) (pb : Option Addr) (cb : Nat) (w : World) (hD : DL w p ds) (hB : DL w pb br) (tabs : Tabs w) (l1 : ds.length ≤ 40) (l2 : br.length ≤ 100) (hp : pProves (pOfD ds) leaf x br = true) (hin : x < ds.length) (heq : leaf = ds.getD x []) :
    Calls Tryd.prog 3 #[.slice p ds.length cap, .agg (bc leaf), .int .u32 (x : Int), .slice pb br.length cb] w fun e w' => e = .returned (.bool true) ∧ Below w.heap.size w w' := by
  have q0 := al1 w (.cells (bc leaf) 24)
  have b0 := (Below.refl w.heap.size w).alloc (Nat.le_refl _) (.cells (bc leaf) 24)
  have A := hide fun W t => mawake_calls W t
  have HT := hide tabs
  have d1 : decide ((40 : Int) < (ds.length : Int)) = false := by simp; omega
  have d2 : decide ((100 : Int) < (br.length : Int)) = false := by simp; omega
  have hil := digInfo leaf hl
  have hol := pOfD_lengthQ ds hD.1
  have hir := digInfo (pOfD ds) hol
  have hzr := zeroSize (pOfD ds) hol
  have hor := bc_oneCell (pOfD ds)
  have CO := hide fun L S I hI W hL hO hD => rof7Q_calls ds p cap hcap (by omega) L S I hI W hL hO hD
  have CP := hide fun W hB t => proves_calls (pOfD ds) leaf hol hl x hx br pb cb (by omega) W hB t
  have CC := hide fun L S I hI W hL hO hB => rclimbQ_calls leaf hl x hx br pb cb (by omega) L S I hI W hL hO hB
  have HC := hide fun J hz hno hc => binds_core ds hD.1 (by omega) leaf hl x hx br hB.1 J hp hz hno hc
  rw [hp] at CP
  have HD0 := hide hD
  have HB0 := hide hB
  have Hx := hide hx
  have Hl := hide hl
  obtain ⟨X, hX⟩ : ∃ X, w.alloc (.cells (bc leaf) 24) = X := ⟨_, rfl⟩
  rw [hX] at q0 b0
  have HX := hide hX
  obtain ⟨R, hR⟩ : ∃ R, pOfD ds = R := ⟨_, rfl⟩
  rw [hR] at CO CP hir hzr hor
  have hlt : decide (x < ds.length) = true := by simpa using hin
  have hbx : (0 : Int) ≤ x ∧ (x : Int) < ds.length := by omega
  have hEl := hD.len x hin
  have HNE : Hid (ds ≠ []) := hide (by intro h; rw [h] at hin; simp at hin)
  have Hin := hide hin
  obtain ⟨E, hE⟩ : ∃ E, ds.getD x [] = E := ⟨_, rfl⟩
  have e1 : (if x < ds.length then ds.getD x [] else List.replicate 32 0) = E := (if_pos hin).trans hE
  rw [hE] at hEl
  rw [e1] at HC
  have HE := hide hE
  have hie := digInfo E hEl
  have hze := zeroSize E hEl
  have hoe := bc_oneCell E
  have hEQ := hide fun W => dig_eq leaf E hl hEl W
  rw [show decide (leaf = E) = true from by rw [decide_eq_true (by rw [← hE]; exact heq)]] at hEQ
  have HEl := hide hEl
  clear hX hR tabs hD hB hcap hol hp hl hx hin heq hE hEl e1
  go_enter Tryd.func3, Tryd.ntmps3
  go_wp2_with (rw [unhide HX])
  refine (unhide A _ ((unhide HT).below b0 (Nat.le_refl _))).mono ?_
  rintro e w1 ⟨rfl, b1⟩
  have hb1 := b0.trans (b1.mono b0.size)
  have q1 := Below.at b1 (Array.getElem?_eq_some_iff.1 q0).1 q0
  have zN1 := hide (Array.getElem?_eq_some_iff.1 q1).1
  have D1 := hide ((unhide HD0).below hb1 (Nat.le_refl _))
  have B1 := hide ((unhide HB0).below hb1 (Nat.le_refl _))
  have T1 := hide ((unhide HT).below hb1 (Nat.le_refl _))
  have HB1 := hide hb1
  have Q1 := hide q1
  clear q0 q1 b0 b1 hb1
  go_wp2_with fail
  refine (rnewLog_calls _).mono ?_
  rintro e w4 ⟨rfl, hL4, b4, z4⟩
  obtain ⟨L, hLL⟩ : ∃ B, w1.heap.size + 1 = B := ⟨_, rfl⟩
  obtain ⟨S4, hS4⟩ : ∃ S : Nat → Prop, (fun k => w1.heap.size ≤ k ∧ k < w1.heap.size + 2) = S := ⟨_, rfl⟩
  have HS4 : Hid (∀ k, S4 k → w1.heap.size ≤ k) := hide fun k h => by rw [← hS4] at h; exact h.1
  rw [hLL, hS4] at hL4
  rw [hLL]
  have L4 := hide hL4
  have B4 := hide b4
  have zz4 : w1.heap.size ≤ w4.heap.size := b4.size
  have OD : Hid (∀ (S : Nat → Prop), (∀ k, S k → w1.heap.size ≤ k) → ds ≠ [] → Out p S) := hide fun S hS hne a e h => by
    obtain ⟨b, off, e2, hlt, _⟩ := (unhide D1).2 hne
    rw [e2] at e
    cases e
    have := hS _ h
    have hlt' : b < w1.heap.size := hlt
    have h9 : w1.heap.size ≤ b := this
    omega
  have OB : Hid (∀ (S : Nat → Prop), (∀ k, S k → w1.heap.size ≤ k) → br ≠ [] → Out pb S) := hide fun S hS hne a e h => by
    obtain ⟨b, off, e2, hlt, _⟩ := (unhide B1).2 hne
    rw [e2] at e
    cases e
    have := hS _ h
    have hlt' : b < w1.heap.size := hlt
    have h9 : w1.heap.size ≤ b := this
    omega
  clear hL4 b4 z4 hLL hS4
  go_wp2_with fail
  refine (unhide CO L S4 [] (by simp) _ (unhide L4) (unhide OD S4 (unhide HS4)) ((unhide D1).below (unhide B4) (Nat.le_refl _))).mono ?_
  rintro e w5 ⟨rfl, S5, I5, hL5, bu5, hs5, _, nt5, le5⟩
  have HS5 : Hid (∀ k, S5 k → w1.heap.size ≤ k) := hide fun k h => (hs5 k h).elim (unhide HS4 k) (Nat.le_trans zz4)
  have B5 := hide ((unhide B4).trans (bu5.to_below w1.heap.size (unhide HS4) zz4))
  have zz5 : w1.heap.size ≤ w5.heap.size := (unhide B5).size
  have L5 := hide hL5
  have NT5 := hide nt5
  have LE5 := hide le5
  clear hL5 bu5 hs5 nt5 le5
  have hZ : (bc (List.replicate 32 (0 : UInt8))).size = (bc R).size := hzr
  go_upto_region 7 with (refine wpList_store_new rfl 24 (.tmp 10) (.tmp 26) rfl w5 _ _ R rfl rfl hir hzr ?_; intro w6 q10 b6 y6)
  have B6 := hide ((unhide B5).trans (b6.mono zz5))
  have L6 := hide ((unhide L5).below b6)
  have Q10 := hide q10
  have q6 := Below.at (unhide B6) (unhide zN1) (unhide Q1)
  clear q10 b6 y6
  have q10 := unhide Q10
  go_wp2_with (first
    | (refine wpList_load_row rfl 24 (.tmp 10) rfl w5.heap.size rfl 24 _ (0, 0) _ q10 Tryd.underlying24 rfl hir ?_)
    | (refine wpList_load_row rfl 24 (.tmp 5) rfl w.heap.size rfl 24 _ (0, 0) _ q6 Tryd.underlying24 rfl hil ?_))
  refine (unhide CP _ ((unhide B1).below (unhide B6) (Nat.le_refl _)) ((unhide T1).below (unhide B6) (Nat.le_refl _))).mono ?_
  rintro e w7 ⟨rfl, b7⟩
  have zz6 : w1.heap.size ≤ w6.heap.size := (unhide B6).size
  have B7 := hide ((unhide B6).trans (b7.mono zz6))
  have L7 := hide ((unhide L6).below b7)
  have q7 := Below.at (unhide B7) (unhide zN1) (unhide Q1)
  clear b7 q6 q10
  go_wp2_with (refine wpList_load_row rfl 24 (.tmp 5) rfl w.heap.size rfl 24 _ (0, 0) _ q7 Tryd.underlying24 rfl hil ?_)
  refine (unhide CC L S5 I5 (by have := unhide LE5; simp at this; omega) _ (unhide L7) (unhide OB S5 (unhide HS5)) ((unhide B1).below (unhide B7) (Nat.le_refl _))).mono ?_
  rintro e w8 ⟨rfl, S8, I8, hL8, bu8, hs8, mo8, nt8, le8⟩
  have zz7 : w1.heap.size ≤ w7.heap.size := (unhide B7).size
  have B8 := hide ((unhide B7).trans (bu8.to_below w1.heap.size (unhide HS5) zz7))
  have L8 := hide hL8
  have HCl : Hid (leaf ≠ E → cnt I8 < I8.length) := hide fun h => unhide HC I8 (fun j hj => mo8 _ ((unhide NT5).1 j hj)) ((unhide NT5).2.mono mo8) nt8 h
  clear hL8 bu8 hs8 mo8 nt8 le8 q7
  obtain ⟨b, off, hpe, hbl2, hcc⟩ := (unhide D1).2 (unhide HNE)
  have hr8 := rangeAt_below (hcc x (unhide Hin)) (unhide B8) hbl2
  rw [unhide HE] at hr8
  have b8a : Below w8.heap.size w8 (w8.alloc (.cells (bc (List.replicate 32 0)) 24)) := (Below.refl _ w8).alloc (Nat.le_refl _) _
  have hr9 := rangeAt_below hr8 b8a (Nat.lt_of_lt_of_le hbl2 (unhide B8).size)
  have R9 := hide hr9
  subst hpe
  have he32 : Hid ((Tryd.prog.info? 24).map (·.size) = some (Lib.byteCells E).length) := hide (by rw [Lib.byteCells_length, unhide HEl]; kernel_rfl)
  clear hr8 hr9 hcc b8a
  go_upto_region 13 with (first
    | (refine wpList_load_mid rfl 24 (.tmp 46) rfl b (off + x * 32) rfl (Lib.byteCells E) _ (unhide R9) Tryd.underlying24 rfl (unhide he32) ?_)
    | (refine wpList_store_new rfl 24 (.tmp 11) (.tmp 47) rfl w8 _ _ E rfl rfl hie hze ?_; intro w9 q11 b9 y9))
  have B9 := hide ((unhide B8).trans (b9.mono (unhide B8).size))
  have L9 := hide ((unhide L8).below b9)
  have Q11 := hide q11
  clear y9 b9 q11
  go_wp2_with fail
  refine (unhide A _ ((unhide T1).below (unhide B9) (Nat.le_refl _))).mono ?_
  rintro e wa ⟨rfl, ba⟩
  have BA := hide ((unhide B9).trans (ba.mono (unhide B9).size))
  have LA := hide ((unhide L9).below ba)
  have qa := Below.at (unhide BA) (unhide zN1) (unhide Q1)
  have qb := Below.at ba (Array.getElem?_eq_some_iff.1 (unhide Q11)).1 (unhide Q11)
  clear ba
  go_wp2_with (first
    | (refine wpList_load_row_gd rfl 24 (.tmp 5) rfl w.heap.size rfl 24 _ (0, 0) _ qa Tryd.underlying24 rfl hil ?_)
    | (refine wpList_load_row_gd rfl 24 (.tmp 11) rfl w8.heap.size rfl 24 _ (0, 0) _ qb Tryd.underlying24 rfl hie ?_)
    | (refine wpList_eql_gm rfl 24 24 (.tmp 50) (.tmp 51) rfl _ _ rfl rfl (by kernel_rfl) _ (unhide hEQ) ?_))
  go_ret
  exact ⟨rfl, (unhide HB1).trans ((unhide BA).mono (unhide HB1).size)⟩
set_option maxHeartbeats 8000000 in
set_option maxRecDepth 100000 in
theorem merkleBinds_10 (ds : List (List UInt8)) (p : Option Addr) (cap : Nat) (hcap : ds.length ≤ cap) (leaf : List UInt8) (hl : leaf.length = 32) (x : Nat) (hx : x < 4294967296) (br : List (List UInt8)) (pb : Option Addr) (cb : Nat) (w : World) (hD : DL w p ds) (hB : DL w pb br) (tabs : Tabs w) (l1 : ds.length ≤ 40) (l2 : br.length ≤ 100) (hp : pProves (pOfD ds) leaf x br = true) (hin : x < ds.length) (heq : leaf ≠ ds.getD x []) :
    Calls Tryd.prog 3 #[.slice p ds.length cap, .agg (bc leaf), .int .u32 (x : Int), .slice pb br.length cb] w fun e w' => e = .returned (.bool true) ∧ Below w.heap.size w w' := by
  have q0 := al1 w (.cells (bc leaf) 24)
  have b0 := (Below.refl w.heap.size w).alloc (Nat.le_refl _) (.cells (bc leaf) 24)
  have A := hide fun W t => mawake_calls W t
  have HT := hide tabs
  have d1 : decide ((40 : Int) < (ds.length : Int)) = false := by simp; omega
  have d2 : decide ((100 : Int) < (br.length : Int)) = false := by simp; omega
  have hil := digInfo leaf hl
  have hol := pOfD_lengthQ ds hD.1
  have hir := digInfo (pOfD ds) hol
  have hzr := zeroSize (pOfD ds) hol
  have hor := bc_oneCell (pOfD ds)
  have CO := hide fun L S I hI W hL hO hD => rof7Q_calls ds p cap hcap (by omega) L S I hI W hL hO hD
  have CP := hide fun W hB t => proves_calls (pOfD ds) leaf hol hl x hx br pb cb (by omega) W hB t
  have CC := hide fun L S I hI W hL hO hB => rclimbQ_calls leaf hl x hx br pb cb (by omega) L S I hI W hL hO hB
  have HC := hide fun J hz hno hc => binds_core ds hD.1 (by omega) leaf hl x hx br hB.1 J hp hz hno hc
  rw [hp] at CP
  have HD0 := hide hD
  have HB0 := hide hB
  have Hx := hide hx
  have Hl := hide hl
  obtain ⟨X, hX⟩ : ∃ X, w.alloc (.cells (bc leaf) 24) = X := ⟨_, rfl⟩
  rw [hX] at q0 b0
  have HX := hide hX
  obtain ⟨R, hR⟩ : ∃ R, pOfD ds = R := ⟨_, rfl⟩
  rw [hR] at CO CP hir hzr hor
  have hlt : decide (x < ds.length) = true := by simpa using hin
  have hbx : (0 : Int) ≤ x ∧ (x : Int) < ds.length := by omega
  have hEl := hD.len x hin
  have HNE : Hid (ds ≠ []) := hide (by intro h; rw [h] at hin; simp at hin)
  have Hin := hide hin
  obtain ⟨E, hE⟩ : ∃ E, ds.getD x [] = E := ⟨_, rfl⟩
  have e1 : (if x < ds.length then ds.getD x [] else List.replicate 32 0) = E := (if_pos hin).trans hE
  rw [hE] at hEl
  rw [e1] at HC
  have HE := hide hE
  have hie := digInfo E hEl
  have hze := zeroSize E hEl
  have hoe := bc_oneCell E
  have hEQ := hide fun W => dig_eq leaf E hl hEl W
  rw [show decide (leaf = E) = false from by rw [decide_eq_false (by rw [← hE]; exact heq)]] at hEQ
  have HQ : Hid (leaf ≠ E) := hide (by rw [← hE]; exact heq)
  have HEl := hide hEl
  clear hX hR tabs hD hB hcap hol hp hl hx hin heq hE hEl e1
  go_enter Tryd.func3, Tryd.ntmps3
  go_wp2_with (rw [unhide HX])
  refine (unhide A _ ((unhide HT).below b0 (Nat.le_refl _))).mono ?_
  rintro e w1 ⟨rfl, b1⟩
  have hb1 := b0.trans (b1.mono b0.size)
  have q1 := Below.at b1 (Array.getElem?_eq_some_iff.1 q0).1 q0
  have zN1 := hide (Array.getElem?_eq_some_iff.1 q1).1
  have D1 := hide ((unhide HD0).below hb1 (Nat.le_refl _))
  have B1 := hide ((unhide HB0).below hb1 (Nat.le_refl _))
  have T1 := hide ((unhide HT).below hb1 (Nat.le_refl _))
  have HB1 := hide hb1
  have Q1 := hide q1
  clear q0 q1 b0 b1 hb1
  go_wp2_with fail
  refine (rnewLog_calls _).mono ?_
  rintro e w4 ⟨rfl, hL4, b4, z4⟩
  obtain ⟨L, hLL⟩ : ∃ B, w1.heap.size + 1 = B := ⟨_, rfl⟩
  obtain ⟨S4, hS4⟩ : ∃ S : Nat → Prop, (fun k => w1.heap.size ≤ k ∧ k < w1.heap.size + 2) = S := ⟨_, rfl⟩
  have HS4 : Hid (∀ k, S4 k → w1.heap.size ≤ k) := hide fun k h => by rw [← hS4] at h; exact h.1
  rw [hLL, hS4] at hL4
  rw [hLL]
  have L4 := hide hL4
  have B4 := hide b4
  have zz4 : w1.heap.size ≤ w4.heap.size := b4.size
  have OD : Hid (∀ (S : Nat → Prop), (∀ k, S k → w1.heap.size ≤ k) → ds ≠ [] → Out p S) := hide fun S hS hne a e h => by
    obtain ⟨b, off, e2, hlt, _⟩ := (unhide D1).2 hne
    rw [e2] at e
    cases e
    have := hS _ h
    have hlt' : b < w1.heap.size := hlt
    have h9 : w1.heap.size ≤ b := this
    omega
  have OB : Hid (∀ (S : Nat → Prop), (∀ k, S k → w1.heap.size ≤ k) → br ≠ [] → Out pb S) := hide fun S hS hne a e h => by
    obtain ⟨b, off, e2, hlt, _⟩ := (unhide B1).2 hne
    rw [e2] at e
    cases e
    have := hS _ h
    have hlt' : b < w1.heap.size := hlt
    have h9 : w1.heap.size ≤ b := this
    omega
  clear hL4 b4 z4 hLL hS4
  go_wp2_with fail
  refine (unhide CO L S4 [] (by simp) _ (unhide L4) (unhide OD S4 (unhide HS4)) ((unhide D1).below (unhide B4) (Nat.le_refl _))).mono ?_
  rintro e w5 ⟨rfl, S5, I5, hL5, bu5, hs5, _, nt5, le5⟩
  have HS5 : Hid (∀ k, S5 k → w1.heap.size ≤ k) := hide fun k h => (hs5 k h).elim (unhide HS4 k) (Nat.le_trans zz4)
  have B5 := hide ((unhide B4).trans (bu5.to_below w1.heap.size (unhide HS4) zz4))
  have zz5 : w1.heap.size ≤ w5.heap.size := (unhide B5).size
  have L5 := hide hL5
  have NT5 := hide nt5
  have LE5 := hide le5
  clear hL5 bu5 hs5 nt5 le5
  have hZ : (bc (List.replicate 32 (0 : UInt8))).size = (bc R).size := hzr
  go_upto_region 7 with (refine wpList_store_new rfl 24 (.tmp 10) (.tmp 26) rfl w5 _ _ R rfl rfl hir hzr ?_; intro w6 q10 b6 y6)
  have B6 := hide ((unhide B5).trans (b6.mono zz5))
  have L6 := hide ((unhide L5).below b6)
  have Q10 := hide q10
  have q6 := Below.at (unhide B6) (unhide zN1) (unhide Q1)
  clear q10 b6 y6
  have q10 := unhide Q10
  go_wp2_with (first
    | (refine wpList_load_row rfl 24 (.tmp 10) rfl w5.heap.size rfl 24 _ (0, 0) _ q10 Tryd.underlying24 rfl hir ?_)
    | (refine wpList_load_row rfl 24 (.tmp 5) rfl w.heap.size rfl 24 _ (0, 0) _ q6 Tryd.underlying24 rfl hil ?_))
  refine (unhide CP _ ((unhide B1).below (unhide B6) (Nat.le_refl _)) ((unhide T1).below (unhide B6) (Nat.le_refl _))).mono ?_
  rintro e w7 ⟨rfl, b7⟩
  have zz6 : w1.heap.size ≤ w6.heap.size := (unhide B6).size
  have B7 := hide ((unhide B6).trans (b7.mono zz6))
  have L7 := hide ((unhide L6).below b7)
  have q7 := Below.at (unhide B7) (unhide zN1) (unhide Q1)
  clear b7 q6 q10
  go_wp2_with (refine wpList_load_row rfl 24 (.tmp 5) rfl w.heap.size rfl 24 _ (0, 0) _ q7 Tryd.underlying24 rfl hil ?_)
  refine (unhide CC L S5 I5 (by have := unhide LE5; simp at this; omega) _ (unhide L7) (unhide OB S5 (unhide HS5)) ((unhide B1).below (unhide B7) (Nat.le_refl _))).mono ?_
  rintro e w8 ⟨rfl, S8, I8, hL8, bu8, hs8, mo8, nt8, le8⟩
  have zz7 : w1.heap.size ≤ w7.heap.size := (unhide B7).size
  have B8 := hide ((unhide B7).trans (bu8.to_below w1.heap.size (unhide HS5) zz7))
  have L8 := hide hL8
  have HCl : Hid (leaf ≠ E → cnt I8 < I8.length) := hide fun h => unhide HC I8 (fun j hj => mo8 _ ((unhide NT5).1 j hj)) ((unhide NT5).2.mono mo8) nt8 h
  clear hL8 bu8 hs8 mo8 nt8 le8 q7
  obtain ⟨b, off, hpe, hbl2, hcc⟩ := (unhide D1).2 (unhide HNE)
  have hr8 := rangeAt_below (hcc x (unhide Hin)) (unhide B8) hbl2
  rw [unhide HE] at hr8
  have b8a : Below w8.heap.size w8 (w8.alloc (.cells (bc (List.replicate 32 0)) 24)) := (Below.refl _ w8).alloc (Nat.le_refl _) _
  have hr9 := rangeAt_below hr8 b8a (Nat.lt_of_lt_of_le hbl2 (unhide B8).size)
  have R9 := hide hr9
  subst hpe
  have he32 : Hid ((Tryd.prog.info? 24).map (·.size) = some (Lib.byteCells E).length) := hide (by rw [Lib.byteCells_length, unhide HEl]; kernel_rfl)
  clear hr8 hr9 hcc b8a
  go_upto_region 13 with (first
    | (refine wpList_load_mid rfl 24 (.tmp 46) rfl b (off + x * 32) rfl (Lib.byteCells E) _ (unhide R9) Tryd.underlying24 rfl (unhide he32) ?_)
    | (refine wpList_store_new rfl 24 (.tmp 11) (.tmp 47) rfl w8 _ _ E rfl rfl hie hze ?_; intro w9 q11 b9 y9))
  have B9 := hide ((unhide B8).trans (b9.mono (unhide B8).size))
  have L9 := hide ((unhide L8).below b9)
  have Q11 := hide q11
  clear y9 b9 q11
  go_wp2_with fail
  refine (unhide A _ ((unhide T1).below (unhide B9) (Nat.le_refl _))).mono ?_
  rintro e wa ⟨rfl, ba⟩
  have BA := hide ((unhide B9).trans (ba.mono (unhide B9).size))
  have LA := hide ((unhide L9).below ba)
  have qa := Below.at (unhide BA) (unhide zN1) (unhide Q1)
  have qb := Below.at ba (Array.getElem?_eq_some_iff.1 (unhide Q11)).1 (unhide Q11)
  clear ba
  go_wp2_with (first
    | (refine wpList_load_row_gd rfl 24 (.tmp 5) rfl w.heap.size rfl 24 _ (0, 0) _ qa Tryd.underlying24 rfl hil ?_)
    | (refine wpList_load_row_gd rfl 24 (.tmp 11) rfl w8.heap.size rfl 24 _ (0, 0) _ qb Tryd.underlying24 rfl hie ?_)
    | (refine wpList_eql_gm rfl 24 24 (.tmp 50) (.tmp 51) rfl _ _ rfl rfl (by kernel_rfl) _ (unhide hEQ) ?_))
  have cl := rclash_calls L S8 I8 wa (unhide LA)
  rw [decide_eq_true (unhide HCl (unhide HQ))] at cl
  refine cl.mono ?_
  rintro e wc ⟨rfl, bc'⟩
  go_wp2_with fail
  go_ret
  exact ⟨rfl, (unhide HB1).trans (((unhide BA).trans (bc'.mono (unhide BA).size)).mono (unhide HB1).size)⟩
set_option maxHeartbeats 8000000 in
set_option maxRecDepth 100000 in
theorem merkleBinds_01 (ds : List (List UInt8)) (p : Option Addr) (cap : Nat) (hcap : ds.length ≤ cap) (leaf : List UInt8) (hl : leaf.length = 32) (x : Nat) (hx : x < 4294967296) (br : List (List UInt8)) (pb : Option Addr) (cb : Nat) (w : World) (hD : DL w p ds) (hB : DL w pb br) (tabs : Tabs w) (l1 : ds.length ≤ 40) (l2 : br.length ≤ 100) (hp : pProves (pOfD ds) leaf x br = true) (hin : ¬ x < ds.length) (heq : leaf = List.replicate 32 0) :
    Calls Tryd.prog 3 #[.slice p ds.length cap, .agg (bc leaf), .int .u32 (x : Int), .slice pb br.length cb] w fun e w' => e = .returned (.bool true) ∧ Below w.heap.size w w' := by
  have q0 := al1 w (.cells (bc leaf) 24)
  have b0 := (Below.refl w.heap.size w).alloc (Nat.le_refl _) (.cells (bc leaf) 24)
  have A := hide fun W t => mawake_calls W t
  have HT := hide tabs
  have d1 : decide ((40 : Int) < (ds.length : Int)) = false := by simp; omega
  have d2 : decide ((100 : Int) < (br.length : Int)) = false := by simp; omega
  have hil := digInfo leaf hl
  have hol := pOfD_lengthQ ds hD.1
  have hir := digInfo (pOfD ds) hol
  have hzr := zeroSize (pOfD ds) hol
  have hor := bc_oneCell (pOfD ds)
  have CO := hide fun L S I hI W hL hO hD => rof7Q_calls ds p cap hcap (by omega) L S I hI W hL hO hD
  have CP := hide fun W hB t => proves_calls (pOfD ds) leaf hol hl x hx br pb cb (by omega) W hB t
  have CC := hide fun L S I hI W hL hO hB => rclimbQ_calls leaf hl x hx br pb cb (by omega) L S I hI W hL hO hB
  have HC := hide fun J hz hno hc => binds_core ds hD.1 (by omega) leaf hl x hx br hB.1 J hp hz hno hc
  rw [hp] at CP
  have HD0 := hide hD
  have HB0 := hide hB
  have Hx := hide hx
  have Hl := hide hl
  obtain ⟨X, hX⟩ : ∃ X, w.alloc (.cells (bc leaf) 24) = X := ⟨_, rfl⟩
  rw [hX] at q0 b0
  have HX := hide hX
  obtain ⟨R, hR⟩ : ∃ R, pOfD ds = R := ⟨_, rfl⟩
  rw [hR] at CO CP hir hzr hor
  have hlt : decide (x < ds.length) = false := by simpa using hin
  obtain ⟨E, hE⟩ : ∃ E, List.replicate 32 (0 : UInt8) = E := ⟨_, rfl⟩
  have hEl : E.length = 32 := by rw [← hE]; simp
  have e1 : (if x < ds.length then ds.getD x [] else List.replicate 32 0) = E := (if_neg hin).trans hE
  rw [e1] at HC
  have HE := hide hE
  have hie := digInfo E hEl
  have hze := zeroSize E hEl
  have hoe := bc_oneCell E
  have hEQ := hide fun W => dig_eq leaf E hl hEl W
  rw [show decide (leaf = E) = true from by rw [decide_eq_true (by rw [← hE]; exact heq)]] at hEQ
  have HEl := hide hEl
  clear hX hR tabs hD hB hcap hol hp hl hin heq hE hEl e1
  go_enter Tryd.func3, Tryd.ntmps3
  go_wp2_with (rw [unhide HX])
  refine (unhide A _ ((unhide HT).below b0 (Nat.le_refl _))).mono ?_
  rintro e w1 ⟨rfl, b1⟩
  have hb1 := b0.trans (b1.mono b0.size)
  have q1 := Below.at b1 (Array.getElem?_eq_some_iff.1 q0).1 q0
  have zN1 := hide (Array.getElem?_eq_some_iff.1 q1).1
  have D1 := hide ((unhide HD0).below hb1 (Nat.le_refl _))
  have B1 := hide ((unhide HB0).below hb1 (Nat.le_refl _))
  have T1 := hide ((unhide HT).below hb1 (Nat.le_refl _))
  have HB1 := hide hb1
  have Q1 := hide q1
  clear q0 q1 b0 b1 hb1
  go_wp2_with fail
  refine (rnewLog_calls _).mono ?_
  rintro e w4 ⟨rfl, hL4, b4, z4⟩
  obtain ⟨L, hLL⟩ : ∃ B, w1.heap.size + 1 = B := ⟨_, rfl⟩
  obtain ⟨S4, hS4⟩ : ∃ S : Nat → Prop, (fun k => w1.heap.size ≤ k ∧ k < w1.heap.size + 2) = S := ⟨_, rfl⟩
  have HS4 : Hid (∀ k, S4 k → w1.heap.size ≤ k) := hide fun k h => by rw [← hS4] at h; exact h.1
  rw [hLL, hS4] at hL4
  rw [hLL]
  have L4 := hide hL4
  have B4 := hide b4
  have zz4 : w1.heap.size ≤ w4.heap.size := b4.size
  have OD : Hid (∀ (S : Nat → Prop), (∀ k, S k → w1.heap.size ≤ k) → ds ≠ [] → Out p S) := hide fun S hS hne a e h => by
    obtain ⟨b, off, e2, hlt, _⟩ := (unhide D1).2 hne
    rw [e2] at e
    cases e
    have := hS _ h
    have hlt' : b < w1.heap.size := hlt
    have h9 : w1.heap.size ≤ b := this
    omega
  have OB : Hid (∀ (S : Nat → Prop), (∀ k, S k → w1.heap.size ≤ k) → br ≠ [] → Out pb S) := hide fun S hS hne a e h => by
    obtain ⟨b, off, e2, hlt, _⟩ := (unhide B1).2 hne
    rw [e2] at e
    cases e
    have := hS _ h
    have hlt' : b < w1.heap.size := hlt
    have h9 : w1.heap.size ≤ b := this
    omega
  clear hL4 b4 z4 hLL hS4
  go_wp2_with fail
  refine (unhide CO L S4 [] (by simp) _ (unhide L4) (unhide OD S4 (unhide HS4)) ((unhide D1).below (unhide B4) (Nat.le_refl _))).mono ?_
  rintro e w5 ⟨rfl, S5, I5, hL5, bu5, hs5, _, nt5, le5⟩
  have HS5 : Hid (∀ k, S5 k → w1.heap.size ≤ k) := hide fun k h => (hs5 k h).elim (unhide HS4 k) (Nat.le_trans zz4)
  have B5 := hide ((unhide B4).trans (bu5.to_below w1.heap.size (unhide HS4) zz4))
  have zz5 : w1.heap.size ≤ w5.heap.size := (unhide B5).size
  have L5 := hide hL5
  have NT5 := hide nt5
  have LE5 := hide le5
  clear hL5 bu5 hs5 nt5 le5
  have hZ : (bc (List.replicate 32 (0 : UInt8))).size = (bc R).size := hzr
  go_upto_region 7 with (refine wpList_store_new rfl 24 (.tmp 10) (.tmp 26) rfl w5 _ _ R rfl rfl hir hzr ?_; intro w6 q10 b6 y6)
  have B6 := hide ((unhide B5).trans (b6.mono zz5))
  have L6 := hide ((unhide L5).below b6)
  have Q10 := hide q10
  have q6 := Below.at (unhide B6) (unhide zN1) (unhide Q1)
  clear q10 b6 y6
  have q10 := unhide Q10
  go_wp2_with (first
    | (refine wpList_load_row rfl 24 (.tmp 10) rfl w5.heap.size rfl 24 _ (0, 0) _ q10 Tryd.underlying24 rfl hir ?_)
    | (refine wpList_load_row rfl 24 (.tmp 5) rfl w.heap.size rfl 24 _ (0, 0) _ q6 Tryd.underlying24 rfl hil ?_))
  refine (unhide CP _ ((unhide B1).below (unhide B6) (Nat.le_refl _)) ((unhide T1).below (unhide B6) (Nat.le_refl _))).mono ?_
  rintro e w7 ⟨rfl, b7⟩
  have zz6 : w1.heap.size ≤ w6.heap.size := (unhide B6).size
  have B7 := hide ((unhide B6).trans (b7.mono zz6))
  have L7 := hide ((unhide L6).below b7)
  have q7 := Below.at (unhide B7) (unhide zN1) (unhide Q1)
  clear b7 q6 q10
  go_wp2_with (refine wpList_load_row rfl 24 (.tmp 5) rfl w.heap.size rfl 24 _ (0, 0) _ q7 Tryd.underlying24 rfl hil ?_)
  refine (unhide CC L S5 I5 (by have := unhide LE5; simp at this; omega) _ (unhide L7) (unhide OB S5 (unhide HS5)) ((unhide B1).below (unhide B7) (Nat.le_refl _))).mono ?_
  rintro e w8 ⟨rfl, S8, I8, hL8, bu8, hs8, mo8, nt8, le8⟩
  have zz7 : w1.heap.size ≤ w7.heap.size := (unhide B7).size
  have B8 := hide ((unhide B7).trans (bu8.to_below w1.heap.size (unhide HS5) zz7))
  have L8 := hide hL8
  have HCl : Hid (leaf ≠ E → cnt I8 < I8.length) := hide fun h => unhide HC I8 (fun j hj => mo8 _ ((unhide NT5).1 j hj)) ((unhide NT5).2.mono mo8) nt8 h
  clear hL8 bu8 hs8 mo8 nt8 le8 q7
  have q11 := al1 w8 (.cells (bc E) 24)
  have b9 : Below w8.heap.size w8 (w8.alloc (.cells (bc E) 24)) := (Below.refl _ w8).alloc (Nat.le_refl _) _
  rw [← unhide HE] at q11 b9
  go_upto_region 13 with fail
  change Code.wp _ _ _ _ (w8.alloc (.cells (bc (List.replicate 32 0)) 24))
  obtain ⟨w9, h9⟩ : ∃ x, w8.alloc (.cells (bc (List.replicate 32 0)) 24) = x := ⟨_, rfl⟩
  rw [h9] at q11 b9
  rw [h9]
  rw [unhide HE] at q11
  have y9 := hide h9
  clear h9
  have B9 := hide ((unhide B8).trans (b9.mono (unhide B8).size))
  have L9 := hide ((unhide L8).below b9)
  have Q11 := hide q11
  clear y9 b9 q11
  go_wp2_with fail
  refine (unhide A _ ((unhide T1).below (unhide B9) (Nat.le_refl _))).mono ?_
  rintro e wa ⟨rfl, ba⟩
  have BA := hide ((unhide B9).trans (ba.mono (unhide B9).size))
  have LA := hide ((unhide L9).below ba)
  have qa := Below.at (unhide BA) (unhide zN1) (unhide Q1)
  have qb := Below.at ba (Array.getElem?_eq_some_iff.1 (unhide Q11)).1 (unhide Q11)
  clear ba
  go_wp2_with (first
    | (refine wpList_load_row_gd rfl 24 (.tmp 5) rfl w.heap.size rfl 24 _ (0, 0) _ qa Tryd.underlying24 rfl hil ?_)
    | (refine wpList_load_row_gd rfl 24 (.tmp 11) rfl w8.heap.size rfl 24 _ (0, 0) _ qb Tryd.underlying24 rfl hie ?_)
    | (refine wpList_eql_gm rfl 24 24 (.tmp 50) (.tmp 51) rfl _ _ rfl rfl (by kernel_rfl) _ (unhide hEQ) ?_))
  go_ret
  exact ⟨rfl, (unhide HB1).trans ((unhide BA).mono (unhide HB1).size)⟩
set_option maxHeartbeats 8000000 in
set_option maxRecDepth 100000 in
theorem merkleBinds_00 (ds : List (List UInt8)) (p : Option Addr) (cap : Nat) (hcap : ds.length ≤ cap) (leaf : List UInt8) (hl : leaf.length = 32) (x : Nat) (hx : x < 4294967296) (br : List (List UInt8)) (pb : Option Addr) (cb : Nat) (w : World) (hD : DL w p ds) (hB : DL w pb br) (tabs : Tabs w) (l1 : ds.length ≤ 40) (l2 : br.length ≤ 100) (hp : pProves (pOfD ds) leaf x br = true) (hin : ¬ x < ds.length) (heq : leaf ≠ List.replicate 32 0) :
    Calls Tryd.prog 3 #[.slice p ds.length cap, .agg (bc leaf), .int .u32 (x : Int), .slice pb br.length cb] w fun e w' => e = .returned (.bool true) ∧ Below w.heap.size w w' := by
  have q0 := al1 w (.cells (bc leaf) 24)
  have b0 := (Below.refl w.heap.size w).alloc (Nat.le_refl _) (.cells (bc leaf) 24)
  have A := hide fun W t => mawake_calls W t
  have HT := hide tabs
  have d1 : decide ((40 : Int) < (ds.length : Int)) = false := by simp; omega
  have d2 : decide ((100 : Int) < (br.length : Int)) = false := by simp; omega
  have hil := digInfo leaf hl
  have hol := pOfD_lengthQ ds hD.1
  have hir := digInfo (pOfD ds) hol
  have hzr := zeroSize (pOfD ds) hol
  have hor := bc_oneCell (pOfD ds)
  have CO := hide fun L S I hI W hL hO hD => rof7Q_calls ds p cap hcap (by omega) L S I hI W hL hO hD
  have CP := hide fun W hB t => proves_calls (pOfD ds) leaf hol hl x hx br pb cb (by omega) W hB t
  have CC := hide fun L S I hI W hL hO hB => rclimbQ_calls leaf hl x hx br pb cb (by omega) L S I hI W hL hO hB
  have HC := hide fun J hz hno hc => binds_core ds hD.1 (by omega) leaf hl x hx br hB.1 J hp hz hno hc
  rw [hp] at CP
  have HD0 := hide hD
  have HB0 := hide hB
  have Hx := hide hx
  have Hl := hide hl
  obtain ⟨X, hX⟩ : ∃ X, w.alloc (.cells (bc leaf) 24) = X := ⟨_, rfl⟩
  rw [hX] at q0 b0
  have HX := hide hX
  obtain ⟨R, hR⟩ : ∃ R, pOfD ds = R := ⟨_, rfl⟩
  rw [hR] at CO CP hir hzr hor
  have hlt : decide (x < ds.length) = false := by simpa using hin
  obtain ⟨E, hE⟩ : ∃ E, List.replicate 32 (0 : UInt8) = E := ⟨_, rfl⟩
  have hEl : E.length = 32 := by rw [← hE]; simp
  have e1 : (if x < ds.length then ds.getD x [] else List.replicate 32 0) = E := (if_neg hin).trans hE
  rw [e1] at HC
  have HE := hide hE
  have hie := digInfo E hEl
  have hze := zeroSize E hEl
  have hoe := bc_oneCell E
  have hEQ := hide fun W => dig_eq leaf E hl hEl W
  rw [show decide (leaf = E) = false from by rw [decide_eq_false (by rw [← hE]; exact heq)]] at hEQ
  have HQ : Hid (leaf ≠ E) := hide (by rw [← hE]; exact heq)
  have HEl := hide hEl
  clear hX hR tabs hD hB hcap hol hp hl hin heq hE hEl e1
  go_enter Tryd.func3, Tryd.ntmps3
  go_wp2_with (rw [unhide HX])
  refine (unhide A _ ((unhide HT).below b0 (Nat.le_refl _))).mono ?_
  rintro e w1 ⟨rfl, b1⟩
  have hb1 := b0.trans (b1.mono b0.size)
  have q1 := Below.at b1 (Array.getElem?_eq_some_iff.1 q0).1 q0
  have zN1 := hide (Array.getElem?_eq_some_iff.1 q1).1
  have D1 := hide ((unhide HD0).below hb1 (Nat.le_refl _))
  have B1 := hide ((unhide HB0).below hb1 (Nat.le_refl _))
  have T1 := hide ((unhide HT).below hb1 (Nat.le_refl _))
  have HB1 := hide hb1
  have Q1 := hide q1
  clear q0 q1 b0 b1 hb1
  go_wp2_with fail
  refine (rnewLog_calls _).mono ?_
  rintro e w4 ⟨rfl, hL4, b4, z4⟩
  obtain ⟨L, hLL⟩ : ∃ B, w1.heap.size + 1 = B := ⟨_, rfl⟩
  obtain ⟨S4, hS4⟩ : ∃ S : Nat → Prop, (fun k => w1.heap.size ≤ k ∧ k < w1.heap.size + 2) = S := ⟨_, rfl⟩
  have HS4 : Hid (∀ k, S4 k → w1.heap.size ≤ k) := hide fun k h => by rw [← hS4] at h; exact h.1
  rw [hLL, hS4] at hL4
  rw [hLL]
  have L4 := hide hL4
  have B4 := hide b4
  have zz4 : w1.heap.size ≤ w4.heap.size := b4.size
  have OD : Hid (∀ (S : Nat → Prop), (∀ k, S k → w1.heap.size ≤ k) → ds ≠ [] → Out p S) := hide fun S hS hne a e h => by
    obtain ⟨b, off, e2, hlt, _⟩ := (unhide D1).2 hne
    rw [e2] at e
    cases e
    have := hS _ h
    have hlt' : b < w1.heap.size := hlt
    have h9 : w1.heap.size ≤ b := this
    omega
  have OB : Hid (∀ (S : Nat → Prop), (∀ k, S k → w1.heap.size ≤ k) → br ≠ [] → Out pb S) := hide fun S hS hne a e h => by
    obtain ⟨b, off, e2, hlt, _⟩ := (unhide B1).2 hne
    rw [e2] at e
    cases e
    have := hS _ h
    have hlt' : b < w1.heap.size := hlt
    have h9 : w1.heap.size ≤ b := this
    omega
  clear hL4 b4 z4 hLL hS4
  go_wp2_with fail
  refine (unhide CO L S4 [] (by simp) _ (unhide L4) (unhide OD S4 (unhide HS4)) ((unhide D1).below (unhide B4) (Nat.le_refl _))).mono ?_
  rintro e w5 ⟨rfl, S5, I5, hL5, bu5, hs5, _, nt5, le5⟩
  have HS5 : Hid (∀ k, S5 k → w1.heap.size ≤ k) := hide fun k h => (hs5 k h).elim (unhide HS4 k) (Nat.le_trans zz4)
  have B5 := hide ((unhide B4).trans (bu5.to_below w1.heap.size (unhide HS4) zz4))
  have zz5 : w1.heap.size ≤ w5.heap.size := (unhide B5).size
  have L5 := hide hL5
  have NT5 := hide nt5
  have LE5 := hide le5
  clear hL5 bu5 hs5 nt5 le5
  have hZ : (bc (List.replicate 32 (0 : UInt8))).size = (bc R).size := hzr
  go_upto_region 7 with (refine wpList_store_new rfl 24 (.tmp 10) (.tmp 26) rfl w5 _ _ R rfl rfl hir hzr ?_; intro w6 q10 b6 y6)
  have B6 := hide ((unhide B5).trans (b6.mono zz5))
  have L6 := hide ((unhide L5).below b6)
  have Q10 := hide q10
  have q6 := Below.at (unhide B6) (unhide zN1) (unhide Q1)
  clear q10 b6 y6
  have q10 := unhide Q10
  go_wp2_with (first
    | (refine wpList_load_row rfl 24 (.tmp 10) rfl w5.heap.size rfl 24 _ (0, 0) _ q10 Tryd.underlying24 rfl hir ?_)
    | (refine wpList_load_row rfl 24 (.tmp 5) rfl w.heap.size rfl 24 _ (0, 0) _ q6 Tryd.underlying24 rfl hil ?_))
  refine (unhide CP _ ((unhide B1).below (unhide B6) (Nat.le_refl _)) ((unhide T1).below (unhide B6) (Nat.le_refl _))).mono ?_
  rintro e w7 ⟨rfl, b7⟩
  have zz6 : w1.heap.size ≤ w6.heap.size := (unhide B6).size
  have B7 := hide ((unhide B6).trans (b7.mono zz6))
  have L7 := hide ((unhide L6).below b7)
  have q7 := Below.at (unhide B7) (unhide zN1) (unhide Q1)
  clear b7 q6 q10
  go_wp2_with (refine wpList_load_row rfl 24 (.tmp 5) rfl w.heap.size rfl 24 _ (0, 0) _ q7 Tryd.underlying24 rfl hil ?_)
  refine (unhide CC L S5 I5 (by have := unhide LE5; simp at this; omega) _ (unhide L7) (unhide OB S5 (unhide HS5)) ((unhide B1).below (unhide B7) (Nat.le_refl _))).mono ?_
  rintro e w8 ⟨rfl, S8, I8, hL8, bu8, hs8, mo8, nt8, le8⟩
  have zz7 : w1.heap.size ≤ w7.heap.size := (unhide B7).size
  have B8 := hide ((unhide B7).trans (bu8.to_below w1.heap.size (unhide HS5) zz7))
  have L8 := hide hL8
  have HCl : Hid (leaf ≠ E → cnt I8 < I8.length) := hide fun h => unhide HC I8 (fun j hj => mo8 _ ((unhide NT5).1 j hj)) ((unhide NT5).2.mono mo8) nt8 h
  clear hL8 bu8 hs8 mo8 nt8 le8 q7
  have q11 := al1 w8 (.cells (bc E) 24)
  have b9 : Below w8.heap.size w8 (w8.alloc (.cells (bc E) 24)) := (Below.refl _ w8).alloc (Nat.le_refl _) _
  rw [← unhide HE] at q11 b9
  go_upto_region 13 with fail
  change Code.wp _ _ _ _ (w8.alloc (.cells (bc (List.replicate 32 0)) 24))
  obtain ⟨w9, h9⟩ : ∃ x, w8.alloc (.cells (bc (List.replicate 32 0)) 24) = x := ⟨_, rfl⟩
  rw [h9] at q11 b9
  rw [h9]
  rw [unhide HE] at q11
  have y9 := hide h9
  clear h9
  have B9 := hide ((unhide B8).trans (b9.mono (unhide B8).size))
  have L9 := hide ((unhide L8).below b9)
  have Q11 := hide q11
  clear y9 b9 q11
  go_wp2_with fail
  refine (unhide A _ ((unhide T1).below (unhide B9) (Nat.le_refl _))).mono ?_
  rintro e wa ⟨rfl, ba⟩
  have BA := hide ((unhide B9).trans (ba.mono (unhide B9).size))
  have LA := hide ((unhide L9).below ba)
  have qa := Below.at (unhide BA) (unhide zN1) (unhide Q1)
  have qb := Below.at ba (Array.getElem?_eq_some_iff.1 (unhide Q11)).1 (unhide Q11)
  clear ba
  go_wp2_with (first
    | (refine wpList_load_row_gd rfl 24 (.tmp 5) rfl w.heap.size rfl 24 _ (0, 0) _ qa Tryd.underlying24 rfl hil ?_)
    | (refine wpList_load_row_gd rfl 24 (.tmp 11) rfl w8.heap.size rfl 24 _ (0, 0) _ qb Tryd.underlying24 rfl hie ?_)
    | (refine wpList_eql_gm rfl 24 24 (.tmp 50) (.tmp 51) rfl _ _ rfl rfl (by kernel_rfl) _ (unhide hEQ) ?_))
  have cl := rclash_calls L S8 I8 wa (unhide LA)
  rw [decide_eq_true (unhide HCl (unhide HQ))] at cl
  refine cl.mono ?_
  rintro e wc ⟨rfl, bc'⟩
  go_wp2_with fail
  go_ret
  exact ⟨rfl, (unhide HB1).trans (((unhide BA).trans (bc'.mono (unhide BA).size)).mono (unhide HB1).size)⟩
theorem merkleBinds_walk (ds : List (List UInt8)) (p : Option Addr) (cap : Nat) (hcap : ds.length ≤ cap) (leaf : List UInt8) (hl : leaf.length = 32) (x : Nat) (hx : x < 4294967296) (br : List (List UInt8)) (pb : Option Addr) (cb : Nat) (w : World) (hD : DL w p ds) (hB : DL w pb br) (tabs : Tabs w) :
    Calls Tryd.prog 3 #[.slice p ds.length cap, .agg (bc leaf), .int .u32 (x : Int), .slice pb br.length cb] w fun e w' => e = .returned (.bool true) ∧ Below w.heap.size w w' := by
  by_cases l1 : ds.length ≤ 40
  · by_cases l2 : br.length ≤ 100
    · cases hp : pProves (pOfD ds) leaf x br with
      | false => exact merkleBinds_no ds p cap hcap leaf hl x hx br pb cb w hD hB tabs l1 l2 hp
      | true =>
        by_cases hin : x < ds.length
        · by_cases heq : leaf = ds.getD x []
          · exact merkleBinds_11 ds p cap hcap leaf hl x hx br pb cb w hD hB tabs l1 l2 hp hin heq
          · exact merkleBinds_10 ds p cap hcap leaf hl x hx br pb cb w hD hB tabs l1 l2 hp hin heq
        · by_cases heq : leaf = List.replicate 32 0
          · exact merkleBinds_01 ds p cap hcap leaf hl x hx br pb cb w hD hB tabs l1 l2 hp hin heq
          · exact merkleBinds_00 ds p cap hcap leaf hl x hx br pb cb w hD hB tabs l1 l2 hp hin heq
    · exact merkleBinds_d2 ds p cap hcap leaf hl x hx br pb cb w hD hB tabs ⟨l1, by omega⟩
  · exact merkleBinds_d1 ds p cap hcap leaf hl x hx br pb cb w hD hB tabs (by omega)
end Go.Proofs.YtljgfpdajodfcaaDoor

namespace Go.Proofs.YtljgfpdajodfcaaDoor
open Go.ChangeShapes Go.WideShapes Go.ChangeAt Go.RowKit

theorem shaOwn : ownKnob Tryd.prog.godebug = none := by kernel_rfl
theorem shaLaidOut : laidOutB Tryd.prog = true := by kernel_rfl
theorem gFirst : Tryd.prog.globalNamed "pontoon/sha.firstWords" = some 0 := by kernel_rfl
theorem gFirstType : (Tryd.prog.globals[0]?).map (·.type) = some 61 := by kernel_rfl
theorem gRound : Tryd.prog.globalNamed "pontoon/sha.roundWords" = some 1 := by kernel_rfl
theorem gRoundType : (Tryd.prog.globals[1]?).map (·.type) = some 92 := by kernel_rfl
theorem cells64 : Tryd.prog.cellsOf 92 = 64 := by kernel_rfl
theorem cells8 : Tryd.prog.cellsOf 61 = 8 := by kernel_rfl
theorem cellsW : Tryd.prog.cellsOf 25 = 1 := by kernel_rfl

/-- What a row lists of package sha. -/
def shaListed : List (String × DataW Unit) := [("pontoon/sha.firstWords", Rows.laid_pontoon_sha_firstWords), ("pontoon/sha.roundWords", Rows.laid_pontoon_sha_roundWords)]
def kInts : List Int := [1116352408, 1899447441, 3049323471, 3921009573, 961987163, 1508970993, 2453635748, 2870763221, 3624381080, 310598401, 607225278, 1426881987, 1925078388, 2162078206, 2614888103, 3248222580, 3835390401, 4022224774, 264347078, 604807628, 770255983, 1249150122, 1555081692, 1996064986, 2554220882, 2821834349, 2952996808, 3210313671, 3336571891, 3584528711, 113926993, 338241895, 666307205, 773529912, 1294757372, 1396182291, 1695183700, 1986661051, 2177026350, 2456956037, 2730485921, 2820302411, 3259730800, 3345764771, 3516065817, 3600352804, 4094571909, 275423344, 430227734, 506948616, 659060556, 883997877, 958139571, 1322822218, 1537002063, 1747873779, 1955562222, 2024104815, 2227730452, 2361852424, 2428436474, 2756734187, 3204031479, 3329325298]
def hInts : List Int := [1779033703, 3144134277, 1013904242, 2773480762, 1359893119, 2600822924, 528734635, 1541459225]
theorem kInts_at : ∀ j, j < 64 → kInts.getD j 0 = ((kWords.getD j 0).toNat : Int) := by decide +kernel
theorem hInts_at : ∀ j, j < 8 → hInts.getD j 0 = ((hWords.getD j 0).toNat : Int) := by decide +kernel

theorem tabs_of {W : World} (h : laidMetH Tryd.prog shaListed W) : Tabs W := by
  have h1 : Lib.TabIs Tryd.prog W "pontoon/sha.firstWords" .u32 hInts :=
    Lib.tabIs_of_head (rest := [("pontoon/sha.roundWords", Rows.laid_pontoon_sha_roundWords)]) gFirst gFirstType Tryd.underlying61 Tryd.underlying25 cellsW cells8 h
  have e : shaListed.filter (fun x => x.1 == "pontoon/sha.roundWords") = [("pontoon/sha.roundWords", Rows.laid_pontoon_sha_roundWords)] := by kernel_rfl
  have hf := h.filter (fun x => x.1 == "pontoon/sha.roundWords")
  rw [e] at hf
  have h2 : Lib.TabIs Tryd.prog W "pontoon/sha.roundWords" .u32 kInts :=
    Lib.tabIs_of_head (rest := []) gRound gRoundType Tryd.underlying92 Tryd.underlying25 cellsW cells64 hf
  have k : ∀ j, j < 64 → W.cell? ⟨1, j, none⟩ = some (.int .u32 ((kWords.getD j 0).toNat : Int)) := fun j hj => by
    rw [← kInts_at j hj]; exact h2.cell gRound j (by simpa [kInts] using hj)
  have hh : ∀ j, j < 8 → W.cell? ⟨0, j, none⟩ = some (.int .u32 ((hWords.getD j 0).toNat : Int)) := fun j hj => by
    rw [← hInts_at j hj]; exact h1.cell gFirst j (by simpa [hInts] using hj)
  exact ⟨⟨block_lt_of_cell (hh 0 (by decide)), block_lt_of_cell (k 0 (by decide))⟩, k, hh⟩

/-- A variable's cells turned. -/
def layCells (cs : Array Value) : Obj → Obj
  | .cells _ t frozen => .cells cs t frozen
  | o => o
def hCells : Array Value := #[.int .u32 1779033703, .int .u32 3144134277, .int .u32 1013904242, .int .u32 2773480762, .int .u32 1359893119, .int .u32 2600822924, .int .u32 528734635, .int .u32 1541459225]
def kCells : Array Value := #[.int .u32 1116352408, .int .u32 1899447441, .int .u32 3049323471, .int .u32 3921009573, .int .u32 961987163, .int .u32 1508970993, .int .u32 2453635748, .int .u32 2870763221, .int .u32 3624381080, .int .u32 310598401, .int .u32 607225278, .int .u32 1426881987, .int .u32 1925078388, .int .u32 2162078206, .int .u32 2614888103, .int .u32 3248222580, .int .u32 3835390401, .int .u32 4022224774, .int .u32 264347078, .int .u32 604807628, .int .u32 770255983, .int .u32 1249150122, .int .u32 1555081692, .int .u32 1996064986, .int .u32 2554220882, .int .u32 2821834349, .int .u32 2952996808, .int .u32 3210313671, .int .u32 3336571891, .int .u32 3584528711, .int .u32 113926993, .int .u32 338241895, .int .u32 666307205, .int .u32 773529912, .int .u32 1294757372, .int .u32 1396182291, .int .u32 1695183700, .int .u32 1986661051, .int .u32 2177026350, .int .u32 2456956037, .int .u32 2730485921, .int .u32 2820302411, .int .u32 3259730800, .int .u32 3345764771, .int .u32 3516065817, .int .u32 3600352804, .int .u32 4094571909, .int .u32 275423344, .int .u32 430227734, .int .u32 506948616, .int .u32 659060556, .int .u32 883997877, .int .u32 958139571, .int .u32 1322822218, .int .u32 1537002063, .int .u32 1747873779, .int .u32 1955562222, .int .u32 2024104815, .int .u32 2227730452, .int .u32 2361852424, .int .u32 2428436474, .int .u32 2756734187, .int .u32 3204031479, .int .u32 3329325298]
/-- A world for the witness: the settled one, the two tables holding what their initialisers lay. -/
noncomputable def shaWorld (os : Os) : World :=
  { World.holding Tryd.prog os ⟨#[], #[], []⟩ with heap := ((World.holding Tryd.prog os ⟨#[], #[], []⟩).heap.modify 0 (layCells hCells)).modify 1 (layCells kCells) }
theorem addr_add (b o j : Nat) : (⟨b, o, none⟩ : Addr).add j = ⟨b, o + j, none⟩ := by unfold Addr.add; split <;> simp_all

end Go.Proofs.YtljgfpdajodfcaaDoor

namespace Go.Proofs.YtljgfpdajodfcaaDoor
open Go.ChangeShapes Go.WideShapes Go.ChangeAt Go.RowKit

theorem mapM_ints {H : Type} {enc : TypeId × Value → H} {P : Program} {W : World} {base : Nat} {sp : Nat → Bool} {held : Bool} {e : TypeId} {q : IntKind} (he : P.underlying e = some (.int q)) {m : Nat} {cs : List Value} {c : Nat} :
    ∀ (L : List Nat) (xs : List (DataW H × List MemPlace)), L.mapM (fun i => DataW.trod enc P W base sp held m e ((cs.drop (i * c)).take c)) = some xs → ∀ i ∈ L, ∃ a, (cs.drop (i * c)).take c = [.int q a] ∧ (Lit.int q a).wf = true
  | [], xs, h => by intro i hi; cases hi
  | i :: L, xs, h => by
    rw [List.mapM_cons] at h
    simp only [bind, Option.bind_eq_some_iff, pure, Option.some.injEq] at h
    obtain ⟨y, hy, ys, hys, rfl⟩ := h
    intro j hj
    rcases List.mem_cons.1 hj with rfl | hj
    · obtain ⟨a, ea, _, wa⟩ := DataW.trod_int he hy
      exact ⟨a, ea, wa⟩
    · exact mapM_ints he L ys hys j hj
/-- The numbers of an array that came in. -/
theorem open_numbers {H : Type} {enc : TypeId × Value → H} {P : Program} {W : World} {base : Nat} {sp : Nat → Bool} {held : Bool} {k e : TypeId} {n : Nat} {q : IntKind} (A : WideMaps.ArrKey P k e n) (he : P.underlying e = some (.int q))
    {xs : Array Value} (hn : xs.size = n) {d : DataW H} {ps : List MemPlace} (hd : DataW.Trod enc P W base sp held k (.agg xs) d ps) :
    ∃ zs : List Int, zs.length = n ∧ xs = (zs.map (Value.int q)).toArray ∧ ∀ z ∈ zs, (Lit.int q z).wf = true := by
  obtain ⟨fuel, hf⟩ := hd
  cases fuel with
  | zero => simp [DataW.trod] at hf
  | succ m =>
    rw [DataW.trod_step] at hf
    unfold DataW.trodStep at hf
    simp only [A.hu, Value.cells] at hf
    rw [if_pos (by rw [A.size]; simpa using hn)] at hf
    simp only [Option.map_eq_some_iff] at hf
    obtain ⟨ys, hy, e1⟩ := hf
    have hc := mapM_ints he _ ys hy
    rw [A.one] at hc
    have hc' : ∀ i, i < n → ∃ a, xs.toList[i]? = some (.int q a) ∧ (Lit.int q a).wf = true := fun i hi => by
      obtain ⟨a, ha, hw⟩ := hc i (List.mem_range.2 hi)
      refine ⟨a, ?_, hw⟩
      rw [Nat.mul_one] at ha
      have h0 : ((xs.toList.drop i).take 1)[0]? = some (.int q a) := by rw [ha]; rfl
      simpa using h0
    refine ⟨xs.toList.map intOf, by simpa using hn, ?_, ?_⟩
    · apply Array.ext'
      simp only [List.map_map]
      apply List.ext_getElem?
      intro i
      by_cases hi : i < n
      · obtain ⟨a, ha, _⟩ := hc' i hi
        rw [ha]; simp [ha, intOf]
      · rw [List.getElem?_eq_none (by simpa [hn] using Nat.le_of_not_lt hi), List.getElem?_eq_none (by simpa [hn] using Nat.le_of_not_lt hi)]
    · intro z hz
      obtain ⟨v, hv, rfl⟩ := List.mem_map.1 hz
      obtain ⟨i, hi, rfl⟩ := List.getElem_of_mem hv
      obtain ⟨a, ha, hw⟩ := hc' i (by simpa [hn] using hi)
      rw [List.getElem?_eq_getElem hi] at ha
      rw [Option.some.inj ha]; exact hw
end Go.Proofs.YtljgfpdajodfcaaDoor

namespace Go.Proofs.YtljgfpdajodfcaaDoor
open Go.ChangeShapes Go.WideShapes Go.ChangeAt Go.RowKit
set_option linter.unusedVariables false

theorem arrD : WideMaps.ArrKey Tryd.prog 24 5 32 := ⟨Tryd.underlying24, by kernel_rfl, by kernel_rfl, by kernel_rfl⟩
theorem open_digest {H : Type} {enc : TypeId × Value → H} {W : World} {base : Nat} {sp : Nat → Bool} {held : Bool} {xs : Array Value} (hn : xs.size = 32) {d : DataW H} {ps : List MemPlace} (hd : DataW.Trod enc Tryd.prog W base sp held 24 (.agg xs) d ps) :
    ∃ l : List UInt8, xs = bc l ∧ l.length = 32 := by
  obtain ⟨zs, hl, rfl, hw⟩ := open_numbers arrD Tryd.underlying5 hn hd
  have e : ∀ z ∈ zs, ((UInt8.ofNat z.toNat).toNat : Int) = z := fun z hz => by
    have := hw z hz
    simp [Lit.wf, IntKind.min, IntKind.max, IntKind.signed, IntKind.bits] at this
    rw [UInt8.toNat_ofNat']; omega
  refine ⟨zs.map fun z => UInt8.ofNat z.toNat, ?_, by simpa using hl⟩
  unfold bc Lib.byteCells
  rw [List.map_map]
  congr 1
  apply List.map_congr_left
  intro z hz
  simp only [Function.comp_apply]
  rw [e z hz]
end Go.Proofs.YtljgfpdajodfcaaDoor

namespace Go.Proofs.YtljgfpdajodfcaaDoor
open Go.ChangeShapes Go.WideShapes Go.ChangeAt Go.RowKit
set_option linter.unusedVariables false

theorem open_dl {H : Type} {enc : TypeId × Value → H} {W : World} {base : Nat} {sp : Nat → Bool} {held : Bool} {v : Value} {d : DataW H} {ps : List MemPlace} (hd : DataW.Trod enc Tryd.prog W base sp held 22 v d ps) (hv : ∃ p n cap, v = .slice p n cap) :
    ∃ p ds cap, v = .slice p ds.length cap ∧ ds.length ≤ cap ∧ ds.length ≤ maxLen ∧ DL W p ds := by
  obtain ⟨p, n0, cap0, rfl⟩ := hv
  obtain ⟨fuel, h⟩ := hd
  have hc : Tryd.prog.cellsOf 24 = 32 := by kernel_rfl
  rcases Deep.open_slice Tryd.underlying22 h with ⟨e, _⟩ | ⟨a, len, cap, m, n, D, Pl, e, hb, hlc, hcm, hm, hx, hel⟩
  · simp [Value.cells] at e
    obtain ⟨rfl, rfl, rfl⟩ := e
    exact ⟨none, [], 0, rfl, by simp, by simp, ⟨fun d hd => by simp at hd, fun hn => absurd rfl hn⟩⟩
  · simp [Value.cells] at e
    obtain ⟨rfl, rfl, rfl⟩ := e
    have hlm : n0 ≤ m := by rw [hm]; split <;> omega
    rw [hc] at hel
    have each : ∀ i, i < n0 → ∃ l : List UInt8, l.length = 32 ∧ ∀ j, j < 32 → W.cell? (a.add (i * 32 + j)) = (bc l)[j]? := fun i hi => by
      obtain ⟨cs', h1, h2⟩ := hel i (by omega)
      obtain ⟨h3, h4, h5⟩ := World.cells?_some h1
      obtain ⟨l, hl, hll⟩ := open_digest (xs := cs'.toArray) (by simpa using h4) ⟨n, h2⟩
      refine ⟨l, hll, fun j hj => ?_⟩
      have h7 := h5 j hj
      rw [Deep.add_add] at h7
      rw [h7, ← hl]
      simp
    let F : Nat → List UInt8 := fun i => if h : i < n0 then Classical.choose (each i h) else List.replicate 32 0
    have hF : ∀ i (hi : i < n0), (F i).length = 32 ∧ ∀ j, j < 32 → W.cell? (a.add (i * 32 + j)) = (bc (F i))[j]? := fun i hi => by
      have : F i = Classical.choose (each i hi) := by show (if h : i < n0 then _ else _) = _; rw [dif_pos hi]
      rw [this]; exact Classical.choose_spec (each i hi)
    refine ⟨some a, (List.range n0).map F, cap0, by simp, by simpa using hlc, by simp; omega, ⟨fun d hd => ?_, fun hn => ?_⟩⟩
    · obtain ⟨i, hi, rfl⟩ := List.mem_map.1 hd
      exact (hF i (List.mem_range.1 hi)).1
    · have h0 : 0 < n0 := by
        rcases Nat.eq_zero_or_pos n0 with h | h
        · subst h; simp at hn
        · exact h
      obtain ⟨b, off, spot⟩ := a
      have hc0 : W.cell? ((⟨b, off, spot⟩ : Addr).add (0 * 32 + 0)) = some (.int .u8 (((F 0).getD 0 0).toNat : Int)) := by
        rw [(hF 0 h0).2 0 (by omega)]; exact bc_at _ _ (by rw [(hF 0 h0).1]; omega)
      have hspot : spot = none := by simpa [Addr.add] using World.cell?_spot hc0
      subst hspot
      refine ⟨b, off, rfl, ?_, fun i hi j v hv => ?_⟩
      · have := block_lt_of_cell hc0; simpa [Addr.add] using this
      · have hi' : i < n0 := by simpa using hi
        have e1 : ((List.range n0).map F).getD i [] = F i := by simp [hi']
        rw [e1] at hv
        have hj : j < 32 := by
          have := (List.getElem?_eq_some_iff.1 hv).1
          rw [Lib.byteCells_length, (hF i hi').1] at this
          exact this
        have h8 := (hF i hi').2 j hj
        have e2 : (⟨b, off, none⟩ : Addr).add (i * 32 + j) = ⟨b, off + i * 32 + j, none⟩ := by unfold Addr.add; split <;> simp_all [Nat.add_assoc]
        rw [e2] at h8
        rw [h8]
        simpa [bc] using hv
end Go.Proofs.YtljgfpdajodfcaaDoor
