/-
  THE LAYER's awake, OF UPDATES: what a signer signs is right under its root; an empty update is not.
-/
/-
  THE LAYER's awake, OF UPDATES.
-/
/-
  UpdateBytes: the bytes of any update and stop, and what any bytes are, are the document's.
-/
/-
  WHAT THE ROWS OF LAYER 1 LIST GIVES THE WALKS: the two tables of package sha, read as the program's text lays them.
-/
/-
  ARRAYS OF NUMBERS AS ARGUMENTS: what a row hands the walks. Over whatever program.
-/
/-
  A DIGEST, A LIST OF DIGESTS, A SIGNATURE AS ARGUMENTS: what a row hands the walks.
-/
/-
  AN UPDATE AND A STOP AS ARGUMENTS: what a row hands the walks.
-/
import Derived.Test.YtocibklkpnblgaaGreatDoorJ8
import Derived.Test.YtocibklkpnblgaaGreatDoorJ3
import Derived.Test.YtocibklkpnblgaaGreatDoorJ4
import Derived.Test.YtocibklkpnblgaaGreatDoorCards
import Derived.Test.YtocibklkpnblgaaGreatDoorTie
import Derived.ProofKit
import Derived.OpenShut
import Derived.Deep.DeepHandedRow
import Derived.Lib.LaidTab
import Derived.Test.YtocibklkpnblgaaGreatDoorJ0
import Derived.WideKeyArr2
import Derived.ChangeMaps5
import Derived.Test.YtocibklkpnblgaaGreatDoorJ1
import Derived.Deep.Slices
import Derived.Lib.SmallJoins
namespace Go.Proofs.YtocibklkpnblgaaGreatDoor
open Go Go.RowKit
set_option linter.unusedSimpArgs false
set_option linter.unusedVariables false

theorem leaf_word (seed : List UInt8) (x : Nat) (hx : x < 16) : (pLeaves seed).getD x [] = pWord seed x := by simp [pLeaves, hx]
/-- What a signer signs is right under its root. -/
theorem right_signed (seed : List UInt8) (hs : seed.length = 32) (x : Nat) (hx : x < 16) (home : Nat) (hh : home < 4294967296) (a b : List UInt8) (ha : a.length = 32) (hb : b.length = 32) (B : Nat) (cs : Array Value) (w : World) (hS : SigAt w B seed (pClaim home a b) (pLeaves seed) x cs) (tabs : Tabs w) :
    Calls Tryz.prog 18 #[.pointer none, .agg (bc (kRoot (pLeaves seed))), .agg (updc home a b cs)] w fun e w' => e = .returned (.bool true) ∧ Below w.heap.size w w' :=
  uright_of _ (kRoot_length _ (pLeaves_len seed)) home hh a b ha hb cs hS.size.1 true w tabs fun W hW =>
    verify_true seed (pClaim home a b) hs (pOf_length _ _) (pLeaves seed) (pLeaves_len seed) (pLeaves_32 seed) x hx (leaf_word seed x hx) B cs W (hS.below hW) (tabs.below hW (Nat.le_refl _))
theorem right_empty (root : List UInt8) (hr : root.length = 32) (w : World) (tabs : Tabs w) :
    Calls Tryz.prog 18 #[.pointer none, .agg (bc root), .agg updZ] w fun e w' => e = .returned (.bool false) ∧ Below w.heap.size w w' :=
  uright_of root hr 0 (by decide) _ _ (by simp) (by simp) sigZ rfl false w tabs fun W _ => verify_empty _ _ W
end Go.Proofs.YtocibklkpnblgaaGreatDoor

namespace Go.Proofs.YtocibklkpnblgaaGreatDoor
open Go Go.RowKit
set_option linter.unusedSimpArgs false
set_option linter.unusedVariables false

set_option maxHeartbeats 8000000 in
set_option maxRecDepth 100000 in
theorem uawake_of (S1 A2 A3 : List UInt8) (h1 : S1.length = 32) (h2 : A2.length = 32) (h3 : A3.length = 32) (hb1 : Tryz.prog.built 24 [(0, .int .u8 1)] = some (bc S1)) (hb2 : Tryz.prog.built 24 [(0, .int .u8 2)] = some (bc A2)) (hb3 : Tryz.prog.built 24 [(0, .int .u8 3)] = some (bc A3)) (w : World) (tabs : Tabs w) :
    Calls Tryz.prog 4 #[] w fun e w' => e = .returned (.bool true) ∧ Below w.heap.size w w' := by
  have e0 : ((0 : Nat) : Int) = 0 := rfl
  have e1 : ((1 : Nat) : Int) = 1 := rfl
  have cn := hide fun W t => new_calls S1 h1 W t
  have cu0 := fun b off c W hD t => usign_calls S1 h1 0 (by decide) (pLeaves S1) (pLeaves_len S1) b off c 1 (by decide) A2 A3 h2 h3 W hD t
  rw [e0, e1] at cu0
  have cu := hide cu0
  have cr := hide fun p c W hD t => kroot_calls S1 h1 0 (pLeaves S1) (pLeaves_len S1) p c W hD t
  have cs1 := hide fun B cs W hS t => right_signed S1 h1 0 (by decide) 1 (by decide) A2 A3 h2 h3 B cs W hS t
  have ce := hide fun W t => right_empty (kRoot (pLeaves S1)) (kRoot_length _ (pLeaves_len S1)) W t
  have hDl := hide (pLeaves_len S1)
  have hsi := hide fun n v => sgc_info S1 h1 n v
  have hso := hide fun n p l c => sgc_one S1 n p l c
  have hsz := hide fun n v => sg0_size S1 h1 n v
  have HB1 := hide hb1
  have HB2 := hide hb2
  have HB3 := hide hb3
  have H2 := hide h2
  have H3 := hide h3
  have HT := hide tabs
  generalize kRoot (pLeaves S1) = RT at *
  generalize pLeaves S1 = LV at *
  clear cu0 e0 e1 hb1 hb2 hb3 tabs h2 h3
  go_enter Tryz.func4, Tryz.ntmps4
  go_wp2_with (refine wpList_build_to rfl 24 #[(0, .const (.int .u8 1))] rfl (bc S1) (unhide HB1) ?_)
  refine (unhide cn _ (unhide HT)).mono ?_
  rintro e w1 ⟨rfl, hD1, b1⟩
  obtain ⟨G0, hG0⟩ : ∃ G, w.heap.size + 1 + 1 = G := ⟨_, rfl⟩
  rw [hG0] at hD1
  rw [hG0]
  have i1 := unhide hsi 0 (.slice (some ⟨G0, 0, none⟩) 16 16)
  have o1 := unhide hso 0 (some ⟨G0, 0, none⟩) 16 16
  have z1 := unhide hsz 0 (.slice (some ⟨G0, 0, none⟩) 16 16)
  obtain ⟨C1, hC1⟩ : ∃ C, sgc S1 0 (.slice (some ⟨G0, 0, none⟩) 16 16) = C := ⟨_, rfl⟩
  have cu1 := unhide cu G0 0 16
  have cr1 := unhide cr (some ⟨G0, 0, none⟩) 16
  rw [hC1] at i1 o1 z1 cu1 cr1
  rw [hC1]
  have CU := hide cu1
  have CR := hide cr1
  clear hG0 hC1 cu1 cr1
  go_wp2_with (first
    | (refine wpList_store_newV rfl 49 (.tmp 1) (.tmp 6) rfl w1 sg0 _ C1 rfl rfl i1 z1 o1 ?_; intro w2 q2 b2 zz2)
    | (refine wpList_load_row rfl 49 (.tmp 1) rfl w1.heap.size rfl 49 C1 (0, 0) _ q2 Tryz.underlying49 rfl i1 ?_)
    | (refine wpList_build_to rfl 24 #[(0, .const (.int .u8 2))] rfl (bc A2) (unhide HB2) ?_)
    | (refine wpList_build_to rfl 24 #[(0, .const (.int .u8 3))] rfl (bc A3) (unhide HB3) ?_))
  have bW2 : Below w.heap.size w w2 := b1.trans (b2.mono b1.size)
  have hD2 := hD1.below b2 (Nat.le_refl _)
  refine (unhide CU _ hD2 ((unhide HT).below bW2 (Nat.le_refl _))).mono ?_
  rintro e w3 ⟨⟨gc, cap, cs, rfl, hgc, hDc, hSc⟩, b3⟩
  have bW3 : Below w.heap.size w w3 := bW2.trans (b3.mono bW2.size)
  have q3 := Below.at b3 (Array.getElem?_eq_some_iff.1 q2).1 q2
  have zq3 := (Array.getElem?_eq_some_iff.1 q3).1
  have hD3 := hD2.below b3 (Nat.le_refl _)
  have hcz := hSc.size
  have huz := updc_size 1 A2 A3 (unhide H2) (unhide H3) cs hcz.1
  have hui : (Tryz.prog.info? 29).map (·.size) = some (updc 1 A2 A3 cs).size := by rw [huz]; kernel_rfl
  have huq : updZ.size = (updc 1 A2 A3 cs).size := by rw [huz]; exact updc_size 0 _ _ (by simp) (by simp) _ rfl
  have huo := updc_one 1 A2 A3 cs hcz.2
  have i2 := unhide hsi (0 + 1) (.slice (some ⟨gc, 0, none⟩) 16 cap)
  have o2 := unhide hso (0 + 1) (some ⟨gc, 0, none⟩) 16 cap
  have z2 := unhide hsz (0 + 1) (.slice (some ⟨gc, 0, none⟩) 16 cap)
  obtain ⟨C2, hC2⟩ : ∃ C, sgc S1 (0 + 1) (.slice (some ⟨gc, 0, none⟩) 16 cap) = C := ⟨_, rfl⟩
  have ks := unhide cs1 w2.heap.size cs
  obtain ⟨UC, hUC⟩ : ∃ U, updc 1 A2 A3 cs = U := ⟨_, rfl⟩
  rw [hC2] at i2 o2 z2
  rw [hUC] at hui huq huo ks
  rw [hC2, hUC]
  have KS := hide ks
  have HS3 := hide hSc
  obtain ⟨a0, a1⟩ := al2 w3 (.cells sg0 49) (.cells updZ 29)
  have s1 := (setRow_other ((w3.alloc (.cells sg0 49)).alloc (.cells updZ 29)) w3.heap.size (w3.heap.size + 1) C2 (by omega)).trans a1
  have s2 := setRow_heap _ _ _ UC _ _ s1
  have bX : Below w3.heap.size w3 ((((w3.alloc (.cells sg0 49)).alloc (.cells updZ 29)).setRow w3.heap.size C2).setRow (w3.heap.size + 1) UC) := below_setRow (below_setRow (bel2 w3 _ _) (Nat.le_refl _) _) (by omega) _
  clear hcz huz hUC hC2 ks hSc b3 b2 bW2 hD1 hD2 q2 hDc hgc
  go_upto_region 3 with (first
    | (refine wpList_store_row rfl 49 (.tmp 2) (.tmp 12) rfl w3.heap.size C2 rfl rfl 49 _ a0 i2 z2 o2 ?_)
    | (refine wpList_store_row rfl 29 (.tmp 3) (.tmp 13) rfl (w3.heap.size + 1) UC rfl rfl 29 _ s1 hui huq huo ?_))
  obtain ⟨X, hX⟩ : ∃ X, (((w3.alloc (.cells sg0 49)).alloc (.cells updZ 29)).setRow w3.heap.size C2).setRow (w3.heap.size + 1) UC = X := ⟨_, rfl⟩
  change Code.wp _ _ _ _ ((((w3.alloc (.cells sg0 49)).alloc (.cells updZ 29)).setRow w3.heap.size C2).setRow (w3.heap.size + 1) UC)
  rw [hX] at s2 bX
  rw [hX]
  have bWX : Below w.heap.size w X := bW3.trans (bX.mono bW3.size)
  have qX := Below.at bX zq3 q3
  have hDX := hD3.below bX (Nat.le_refl _)
  have hSX := (unhide HS3).below bX
  have tX := (unhide HT).below bWX (Nat.le_refl _)
  obtain ⟨G1, hG1⟩ : ∃ G, w1.heap.size = G := ⟨_, rfl⟩
  obtain ⟨G3, hG3⟩ : ∃ G, w3.heap.size + 1 = G := ⟨_, rfl⟩
  rw [hG1] at qX
  rw [hG3] at s2
  rw [hG1, hG3]
  have R1 : Hid (∀ w', (∃ p : Regrown, w' = Sort.grow (redrawn X p.d) p.os) → w'.heap[G1]? = some (.cells C1 49 (0, 0))) := fun w' ⟨p, hp⟩ => by rw [hp]; exact Below.at (below_regrown X p.d p.os) (Array.getElem?_eq_some_iff.1 qX).1 qX
  have R3 : Hid (∀ w', (∃ p : Regrown, w' = Sort.grow (redrawn X p.d) p.os) → w'.heap[G3]? = some (.cells UC 29 (0, 0))) := fun w' ⟨p, hp⟩ => by rw [hp]; exact Below.at (below_regrown X p.d p.os) (Array.getElem?_eq_some_iff.1 s2).1 s2
  have kR := hide fun d os => Calls.regrown_of (w := X) (d := d) (os := os) (unhide CR _ (hDX.below (below_regrown X d os) (Nat.le_refl _)) (tX.below (below_regrown X d os) (Nat.le_refl _)))
  have kS := hide fun d os => Calls.regrown_of (w := X) (d := d) (os := os) (unhide KS _ (hSX.below (below_regrown X d os)) (tX.below (below_regrown X d os) (Nat.le_refl _)))
  have kE := hide fun d os => Calls.regrown_of (w := X) (d := d) (os := os) (unhide ce _ (tX.below (below_regrown X d os) (Nat.le_refl _)))
  clear hX s1 s2 a0 a1 bX qX hDX hSX tX hG1 hG3 zq3 q3 hD3 bW3 cn cu cr cs1 ce CU CR KS
  refine wp_region_below mixed (by kernel_rfl) ?_
  quiet_step (fail)
  quiet_step (fail)
  quiet_step (fail)
  refine wpQuiet_load_row rfl 49 (.tmp 1) rfl G1 rfl 49 C1 (0, 0) _ (unhide R1) Tryz.underlying49 rfl i1 ?_
  quiet_step (exact unhide kR _ _)
  refine wpQuiet_load_row rfl 29 (.tmp 3) rfl G3 rfl 29 UC (0, 0) _ (unhide R3) Tryz.underlying29 rfl hui ?_
  quiet_step (exact unhide kS _ _)
  quiet_step (fail)
  quiet_step (fail)
  refine wpQuiet_load_row rfl 49 (.tmp 1) rfl G1 rfl 49 C1 (0, 0) _ (unhide R1) Tryz.underlying49 rfl i1 ?_
  quiet_step (exact unhide kR _ _)
  quiet_step (fail)
  quiet_step (exact unhide kE _ _)
  repeat (quiet_step (fail))
  refine wpQuiet_nil ?_
  intro w5 b5
  go_wp2
  go_ret
  exact ⟨rfl, bWX.trans (b5.mono bWX.size)⟩
theorem uawake_calls (w : World) (tabs : Tabs w) : Calls Tryz.prog 4 #[] w fun e w' => e = .returned (.bool true) ∧ Below w.heap.size w w' :=
  uawake_of (1 :: List.replicate 31 0) (2 :: List.replicate 31 0) (3 :: List.replicate 31 0) (by simp) (by simp) (by simp) (by kernel_rfl) (by kernel_rfl) (by kernel_rfl) w tabs
end Go.Proofs.YtocibklkpnblgaaGreatDoor

namespace Go.Proofs.YtocibklkpnblgaaGreatDoor
open Go Go.RowKit
set_option linter.unusedSimpArgs false
set_option linter.unusedVariables false

theorem at_below {w w' : World} {g : Nat} {o : Obj} (hb : Below w.heap.size w w') (h : w.heap[g]? = some o) : w'.heap[g]? = some o := Below.at hb (Array.getElem?_eq_some_iff.1 h).1 h
set_option maxHeartbeats 16000000 in
set_option maxRecDepth 100000 in
theorem updateBytes_walk (home : Nat) (hh : home < 4294967296) (a b : List UInt8) (ha : a.length = 32) (hb : b.length = 32) (i : Int) (p1 p2 p3 : Option Addr) (n1 n2 n3 c1 c2 c3 : Nat) (l1 l2 l3 : List UInt8)
    (home2 : Nat) (hh2 : home2 < 4294967296) (d : List UInt8) (hd : d.length = 32) (y : Int) (j : Int) (q1 q2 q3 : Option Addr) (k1 k2 k3 e1 e2 e3 : Nat) (m1 m2 m3 : List UInt8) (s : List UInt8) (w : World)
    (D1 : Digs w (.slice p1 n1 c1) l1) (D2 : Digs w (.slice p2 n2 c2) l2) (D3 : Digs w (.slice p3 n3 c3) l3) (E1 : Digs w (.slice q1 k1 e1) m1) (E2 : Digs w (.slice q2 k2 e2) m2) (E3 : Digs w (.slice q3 k3 e3) m3) (tabs : Tabs w) :
    Calls Tryz.prog 3 #[.agg (updc home a b #[.int .i64 i, .slice p1 n1 c1, .slice p2 n2 c2, .slice p3 n3 c3]), .agg (stopc home2 d y #[.int .i64 j, .slice q1 k1 e1, .slice q2 k2 e2, .slice q3 k3 e3]), .string (str s)] w fun e w' => e = .returned (.bool true) ∧ Below w.heap.size w w' := by
  have A := hide fun W t => uawake_calls W t
  obtain ⟨q0, y0⟩ := al2 w (.cells (updc home a b #[.int .i64 i, .slice p1 n1 c1, .slice p2 n2 c2, .slice p3 n3 c3]) 29) (.cells (stopc home2 d y #[.int .i64 j, .slice q1 k1 e1, .slice q2 k2 e2, .slice q3 k3 e3]) 31)
  have hb0 := bel2 w (.cells (updc home a b #[.int .i64 i, .slice p1 n1 c1, .slice p2 n2 c2, .slice p3 n3 c3]) 29) (.cells (stopc home2 d y #[.int .i64 j, .slice q1 k1 e1, .slice q2 k2 e2, .slice q3 k3 e3]) 31)
  obtain ⟨W0, hW0⟩ : ∃ W0, (w.alloc (.cells (updc home a b #[.int .i64 i, .slice p1 n1 c1, .slice p2 n2 c2, .slice p3 n3 c3]) 29)).alloc (.cells (stopc home2 d y #[.int .i64 j, .slice q1 k1 e1, .slice q2 k2 e2, .slice q3 k3 e3]) 31) = W0 := ⟨_, rfl⟩
  rw [hW0] at q0 y0 hb0
  have HW0 := hide hW0
  have tX := hide (tabs.below hb0 (Nat.le_refl _))
  have HT := hide tabs
  have SX := hide fun W => short_calls i p1 p2 p3 n1 n2 n3 c1 c2 c3 W
  have SY := hide fun W => short_calls j q1 q2 q3 k1 k2 k3 e1 e2 e3 W
  have GX : Hid (∀ Z : World, Z.heap[w.heap.size]? = some (.cells (updc home a b #[.int .i64 i, .slice p1 n1 c1, .slice p2 n2 c2, .slice p3 n3 c3]) 29 (0, 0)) → Z.rangeAt w.heap.size 65 [.int .i64 i, .slice p1 n1 c1, .slice p2 n2 c2, .slice p3 n3 c3]) := hide fun (Z : World) h => updc_sig home a b ha hb #[.int .i64 i, .slice p1 n1 c1, .slice p2 n2 c2, .slice p3 n3 c3] rfl Z _ _ h
  have GY : Hid (∀ Z : World, Z.heap[w.heap.size + 1]? = some (.cells (stopc home2 d y #[.int .i64 j, .slice q1 k1 e1, .slice q2 k2 e2, .slice q3 k3 e3]) 31 (0, 0)) → Z.rangeAt (w.heap.size + 1) 34 [.int .i64 j, .slice q1 k1 e1, .slice q2 k2 e2, .slice q3 k3 e3]) := hide fun (Z : World) h => stopc_sig home2 d hd y #[.int .i64 j, .slice q1 k1 e1, .slice q2 k2 e2, .slice q3 k3 e3] rfl Z _ _ h
  clear hW0
  by_cases hX : shB n1 n2 n3 = true ∧ shB k1 k2 k3 = true ∧ s.length ≤ 10000
  case neg =>
    have HX := hide hX
    obtain ⟨X, hXe⟩ : ∃ X, updc home a b #[.int .i64 i, .slice p1 n1 c1, .slice p2 n2 c2, .slice p3 n3 c3] = X := ⟨_, rfl⟩
    obtain ⟨Y, hYe⟩ : ∃ Y, stopc home2 d y #[.int .i64 j, .slice q1 k1 e1, .slice q2 k2 e2, .slice q3 k3 e3] = Y := ⟨_, rfl⟩
    rw [hXe, hYe] at HW0
    rw [hXe] at q0 GX
    rw [hYe] at y0 GY
    rw [hXe, hYe]
    clear hXe hYe hX D1 D2 D3 E1 E2 E3
    -- the three ways out
    obtain ⟨B1, hB1⟩ : ∃ B, shB n1 n2 n3 = B := ⟨_, rfl⟩
    obtain ⟨B2, hB2⟩ : ∃ B, shB k1 k2 k3 = B := ⟨_, rfl⟩
    rw [hB1] at SX HX
    rw [hB2] at SY HX
    clear hB1 hB2
    cases B1 with
    | false =>
      clear HX SY GY
      go_enter Tryz.func3, Tryz.ntmps3
      go_wp2_with (rw [unhide HW0])
      refine (unhide A _ (unhide tX)).mono ?_
      rintro e w1 ⟨rfl, b1⟩
      have r1 := at_below b1 q0
      have bW1 := hb0.trans (b1.mono hb0.size)
      have t1 := (unhide tX).below b1 (Nat.le_refl _)
      have rx := hide (unhide GX _ r1)
      go_wp2_with (first
        | go_skip
        | (refine wpList_load_mid_gd rfl 27 (.tmp 17) rfl w.heap.size 65 rfl _ _ (unhide rx) Tryz.underlying27 rfl (by kernel_rfl) ?_))
      refine (unhide SX _).mono ?_
      rintro e w2 ⟨rfl, b2⟩
      have bW2 := bW1.trans (b2.mono bW1.size)
      have t2 := t1.below b2 (Nat.le_refl _)
      go_wp2_with go_skip
      refine (unhide A _ t2).mono ?_
      rintro e w3 ⟨rfl, b3⟩
      go_wp2_with go_skip
      go_ret
      exact ⟨rfl, bW2.trans (b3.mono bW2.size)⟩
    | true =>
      go_enter Tryz.func3, Tryz.ntmps3
      go_wp2_with (rw [unhide HW0])
      refine (unhide A _ (unhide tX)).mono ?_
      rintro e w1 ⟨rfl, b1⟩
      have r1 := at_below b1 q0
      have s1 := at_below b1 y0
      have bW1 := hb0.trans (b1.mono hb0.size)
      have t1 := (unhide tX).below b1 (Nat.le_refl _)
      have rx := hide (unhide GX _ r1)
      go_wp2_with (first
        | go_skip
        | (refine wpList_load_mid_gd rfl 27 (.tmp 17) rfl w.heap.size 65 rfl _ _ (unhide rx) Tryz.underlying27 rfl (by kernel_rfl) ?_))
      refine (unhide SX _).mono ?_
      rintro e w2 ⟨rfl, b2⟩
      have bW2 := bW1.trans (b2.mono bW1.size)
      have t2 := t1.below b2 (Nat.le_refl _)
      have s2 := at_below b2 s1
      have ry := hide (unhide GY _ s2)
      clear r1 s1 b1 b2 q0 y0 tX
      go_wp2_with (first
        | go_skip
        | (refine wpList_load_mid_gd rfl 27 (.tmp 22) rfl (w.heap.size + 1) 34 rfl _ _ (unhide ry) Tryz.underlying27 rfl (by kernel_rfl) ?_))
      refine (unhide SY _).mono ?_
      rintro e w3 ⟨rfl, b3⟩
      have bW3 := bW2.trans (b3.mono bW2.size)
      have t3 := t2.below b3 (Nat.le_refl _)
      cases B2 with
      | false =>
        clear HX
        go_wp2_with go_skip
        refine (unhide A _ t3).mono ?_
        rintro e w4 ⟨rfl, b4⟩
        go_wp2_with go_skip
        go_ret
        exact ⟨rfl, bW3.trans (b4.mono bW3.size)⟩
      | true =>
        have hs : decide (10000 < (s.length : Int)) = true := by
          have := unhide HX
          simp at this
          simp; omega
        clear HX
        go_wp2_with go_skip
        refine (unhide A _ t3).mono ?_
        rintro e w4 ⟨rfl, b4⟩
        go_wp2_with go_skip
        go_ret
        exact ⟨rfl, bW3.trans (b4.mono bW3.size)⟩
  obtain ⟨hx1, hx2, hs5⟩ := hX
  rw [hx1] at SX
  rw [hx2] at SY
  have L1 : l1.length ≤ 137438953471 ∧ l2.length ≤ 137438953471 ∧ l3.length ≤ 137438953471 := by
    have := of_decide_eq_true hx1
    obtain ⟨_, _, _, ee, h1, _⟩ := D1; simp only [Value.slice.injEq] at ee; obtain ⟨rfl, rfl, rfl⟩ := ee
    obtain ⟨_, _, _, ee, h2, _⟩ := D2; simp only [Value.slice.injEq] at ee; obtain ⟨rfl, rfl, rfl⟩ := ee
    obtain ⟨_, _, _, ee, h3, _⟩ := D3; simp only [Value.slice.injEq] at ee; obtain ⟨rfl, rfl, rfl⟩ := ee
    omega
  have M1 : m1.length ≤ 137438953471 ∧ m2.length ≤ 137438953471 ∧ m3.length ≤ 137438953471 := by
    have := of_decide_eq_true hx2
    obtain ⟨_, _, _, ee, h1, _⟩ := E1; simp only [Value.slice.injEq] at ee; obtain ⟨rfl, rfl, rfl⟩ := ee
    obtain ⟨_, _, _, ee, h2, _⟩ := E2; simp only [Value.slice.injEq] at ee; obtain ⟨rfl, rfl, rfl⟩ := ee
    obtain ⟨_, _, _, ee, h3, _⟩ := E3; simp only [Value.slice.injEq] at ee; obtain ⟨rfl, rfl, rfl⟩ := ee
    omega
  have hs : decide (10000 < (s.length : Int)) = false := by simp; omega
  have CB := hide fun W (hW : Below w.heap.size w W) => ubytes_calls home hh a b ha hb i _ _ _ l1 l2 l3 L1.1 L1.2.1 L1.2.2 W (D1.below hW) (D2.below hW) (D3.below hW)
  have CBr := hide fun W (hW : Below w.heap.size w W) => dubytes_calls home hh a b ha hb i _ _ _ l1 l2 l3 L1.1 L1.2.1 L1.2.2 W (D1.below hW) (D2.below hW) (D3.below hW)
  have CS := hide fun W (hW : Below w.heap.size w W) => sbytes_calls home2 hh2 d hd y j _ _ _ m1 m2 m3 M1.1 M1.2.1 M1.2.2 W (E1.below hW) (E2.below hW) (E3.below hW)
  have CSr := hide fun W (hW : Below w.heap.size w W) => dsbytes_calls home2 hh2 d hd y j _ _ _ m1 m2 m3 M1.1 M1.2.1 M1.2.2 W (E1.below hW) (E2.below hW) (E3.below hW)
  have iX := upd_info (updc home a b #[.int .i64 i, .slice p1 n1 c1, .slice p2 n2 c2, .slice p3 n3 c3]) (updc_size home a b ha hb #[.int .i64 i, .slice p1 n1 c1, .slice p2 n2 c2, .slice p3 n3 c3] rfl)
  have iY := stop_info (stopc home2 d y #[.int .i64 j, .slice q1 k1 e1, .slice q2 k2 e2, .slice q3 k3 e3]) (stopc_size home2 d hd y #[.int .i64 j, .slice q1 k1 e1, .slice q2 k2 e2, .slice q3 k3 e3] rfl)
  have RP := hide fun W => upR_p s hs5 W
  have RD := hide fun W => upR_d s hs5 W
  have TP := hide fun W => stR_p s hs5 W
  have TD := hide fun W => stR_d s hs5 W
  have US := hide fun W r1 r2 h1 h2 => upR_same s hs5 W r1 r2 h1 h2
  have SS := hide fun W r1 r2 h1 h2 => stR_same s hs5 W r1 r2 h1 h2
  obtain ⟨X, hXe⟩ : ∃ X, updc home a b #[.int .i64 i, .slice p1 n1 c1, .slice p2 n2 c2, .slice p3 n3 c3] = X := ⟨_, rfl⟩
  obtain ⟨Y, hYe⟩ : ∃ Y, stopc home2 d y #[.int .i64 j, .slice q1 k1 e1, .slice q2 k2 e2, .slice q3 k3 e3] = Y := ⟨_, rfl⟩
  rw [hXe, hYe] at HW0
  rw [hXe] at q0 GX CB CBr iX
  rw [hYe] at y0 GY CS CSr iY
  rw [hXe, hYe]
  generalize pUpd home a b i l1 l2 l3 = PU at *
  generalize pStop home2 d y j m1 m2 m3 = PS at *
  generalize uE s = EU at *
  generalize sE s = ES at *
  clear hXe hYe D1 D2 D3 E1 E2 E3 L1 M1 hx1 hx2 hs5 ha hb hd hh hh2 tabs
  go_enter Tryz.func3, Tryz.ntmps3
  go_wp2_with (rw [unhide HW0])
  refine (unhide A _ (unhide tX)).mono ?_
  rintro e w1 ⟨rfl, b1⟩
  have r1 := at_below b1 q0
  have s1 := at_below b1 y0
  have bW1 := hb0.trans (b1.mono hb0.size)
  have rx := hide (unhide GX _ r1)
  clear q0 y0 hb0 b1 tX HW0
  go_wp2_with (first
    | go_skip
    | (refine wpList_load_mid_gd rfl 27 (.tmp 17) rfl w.heap.size 65 rfl _ _ (unhide rx) Tryz.underlying27 rfl (by kernel_rfl) ?_))
  refine (unhide SX _).mono ?_
  rintro e w2 ⟨rfl, b2⟩
  have bW2 := bW1.trans (b2.mono bW1.size)
  have r2 := at_below b2 r1
  have s2 := at_below b2 s1
  have ry := hide (unhide GY _ s2)
  clear r1 s1 b2 bW1 rx GX SX
  go_wp2_with (first
    | go_skip
    | (refine wpList_load_mid_gd rfl 27 (.tmp 22) rfl (w.heap.size + 1) 34 rfl _ _ (unhide ry) Tryz.underlying27 rfl (by kernel_rfl) ?_))
  refine (unhide SY _).mono ?_
  rintro e w3 ⟨rfl, b3⟩
  have bW3 := bW2.trans (b3.mono bW2.size)
  have r3 := at_below b3 r2
  have s3 := at_below b3 s2
  clear r2 s2 b3 bW2 ry GY SY
  go_wp2_with go_skip
  refine (unhide RP _).mono ?_
  rintro e w4 ⟨R0, rfl, F0, b4⟩
  have bW4 := bW3.trans (b4.mono bW3.size)
  have r4 := at_below b4 r3
  have s4 := at_below b4 s3
  have i0 := upd_info R0 (unhide F0.size.1)
  have o0 := F0.size.2
  have z0 : Hid (69 = R0.size) := (unhide F0.size.1).symm
  clear r3 s3 b4 bW3 
  have K0 : Hid (∀ Z : World, Below w4.heap.size w4 Z → Z.heap[w.heap.size]? = some (.cells X 29 (0, 0))) := hide fun (Z : World) h => at_below h r4
  go_wp2_with (refine wpList_store_newV rfl 29 (.tmp 7) (.tmp 36) rfl w4 _ _ R0 rfl rfl i0 (show _ = R0.size from unhide z0) o0 ?_; intro w5 q5 b5 zz5)
  have bW5 := bW4.trans (b5.mono bW4.size)
  have r5 := at_below b5 r4
  have s5 := at_below b5 s4
  have F0_5 := F0.below b5
  obtain ⟨G0, hG0⟩ : ∃ G, w4.heap.size = G := ⟨_, rfl⟩
  rw [hG0] at q5
  have g0_5 := q5
  simp only [hG0]
  clear r4 s4 b5 bW4 q5 hG0 zz5 F0 RP  K0
  refine (unhide RD _).mono ?_
  rintro e w6 ⟨R1, rfl, F1, b6⟩
  have bW6 := bW5.trans (b6.mono bW5.size)
  have r6 := at_below b6 r5
  have s6 := at_below b6 s5
  have g0_6 := at_below b6 g0_5
  have F0_6 := F0_5.below b6
  have i1 := upd_info R1 (unhide F1.size.1)
  have o1 := F1.size.2
  have z1 : Hid (69 = R1.size) := (unhide F1.size.1).symm
  clear r5 s5 b6 bW5 g0_5 F0_5
  have K1 : Hid (∀ Z : World, Below w6.heap.size w6 Z → Z.heap[w.heap.size]? = some (.cells X 29 (0, 0))) := hide fun (Z : World) h => at_below h r6
  go_wp2_with (refine wpList_store_newV rfl 29 (.tmp 9) (.tmp 41) rfl w6 _ _ R1 rfl rfl i1 (show _ = R1.size from unhide z1) o1 ?_; intro w7 q7 b7 zz7)
  have bW7 := bW6.trans (b7.mono bW6.size)
  have r7 := at_below b7 r6
  have s7 := at_below b7 s6
  have g0_7 := at_below b7 g0_6
  have F0_7 := F0_6.below b7
  have F1_7 := F1.below b7
  obtain ⟨G1, hG1⟩ : ∃ G, w6.heap.size = G := ⟨_, rfl⟩
  rw [hG1] at q7
  have g1_7 := q7
  simp only [hG1]
  clear r6 s6 b7 bW6 q7 hG1 zz7 F1 RD g0_6 F0_6 K1
  refine (unhide TP _).mono ?_
  rintro e w8 ⟨R2, rfl, F2, b8⟩
  have bW8 := bW7.trans (b8.mono bW7.size)
  have r8 := at_below b8 r7
  have s8 := at_below b8 s7
  have g0_8 := at_below b8 g0_7
  have F0_8 := F0_7.below b8
  have g1_8 := at_below b8 g1_7
  have F1_8 := F1_7.below b8
  have i2 := stop_info R2 (unhide F2.size.1)
  have o2 := F2.size.2
  have z2 : Hid (38 = R2.size) := (unhide F2.size.1).symm
  clear r7 s7 b8 bW7 g0_7 F0_7 g1_7 F1_7
  have K2 : Hid (∀ Z : World, Below w8.heap.size w8 Z → Z.heap[w.heap.size]? = some (.cells X 29 (0, 0))) := hide fun (Z : World) h => at_below h r8
  go_wp2_with (refine wpList_store_newV rfl 31 (.tmp 11) (.tmp 46) rfl w8 _ _ R2 rfl rfl i2 (show _ = R2.size from unhide z2) o2 ?_; intro w9 q9 b9 zz9)
  have bW9 := bW8.trans (b9.mono bW8.size)
  have r9 := at_below b9 r8
  have s9 := at_below b9 s8
  have g0_9 := at_below b9 g0_8
  have F0_9 := F0_8.below b9
  have g1_9 := at_below b9 g1_8
  have F1_9 := F1_8.below b9
  have F2_9 := F2.below b9
  obtain ⟨G2, hG2⟩ : ∃ G, w8.heap.size = G := ⟨_, rfl⟩
  rw [hG2] at q9
  have g2_9 := q9
  simp only [hG2]
  clear r8 s8 b9 bW8 q9 hG2 zz9 F2 TP g0_8 F0_8 g1_8 F1_8 K2
  refine (unhide TD _).mono ?_
  rintro e w10 ⟨R3, rfl, F3, b10⟩
  have bW10 := bW9.trans (b10.mono bW9.size)
  have r10 := at_below b10 r9
  have s10 := at_below b10 s9
  have g0_10 := at_below b10 g0_9
  have F0_10 := F0_9.below b10
  have g1_10 := at_below b10 g1_9
  have F1_10 := F1_9.below b10
  have g2_10 := at_below b10 g2_9
  have F2_10 := F2_9.below b10
  have i3 := stop_info R3 (unhide F3.size.1)
  have o3 := F3.size.2
  have z3 : Hid (38 = R3.size) := (unhide F3.size.1).symm
  clear r9 s9 b10 bW9 g0_9 F0_9 g1_9 F1_9 g2_9 F2_9
  go_wp2_with (refine wpList_store_newV rfl 31 (.tmp 13) (.tmp 51) rfl w10 _ _ R3 rfl rfl i3 (show _ = R3.size from unhide z3) o3 ?_; intro w11 q11 b11 zz11)
  have bW11 := bW10.trans (b11.mono bW10.size)
  have r11 := at_below b11 r10
  have s11 := at_below b11 s10
  have g0_11 := at_below b11 g0_10
  have F0_11 := F0_10.below b11
  have g1_11 := at_below b11 g1_10
  have F1_11 := F1_10.below b11
  have g2_11 := at_below b11 g2_10
  have F2_11 := F2_10.below b11
  have F3_11 := F3.below b11
  obtain ⟨G3, hG3⟩ : ∃ G, w10.heap.size = G := ⟨_, rfl⟩
  rw [hG3] at q11
  have g3_11 := q11
  simp only [hG3]
  clear r10 s10 b11 bW10 q11 hG3 zz11 F3 TD g0_10 F0_10 g1_10 F1_10 g2_10 F2_10 
  have RX : Hid (∀ w', (∃ p : Regrown, w' = Sort.grow (redrawn w11 p.d) p.os) → w'.heap[w.heap.size]? = some (.cells X 29 (0, 0))) := hide fun w' ⟨p, hp⟩ => by rw [hp]; exact at_below (below_regrown w11 p.d p.os) r11
  have RY : Hid (∀ w', (∃ p : Regrown, w' = Sort.grow (redrawn w11 p.d) p.os) → w'.heap[w.heap.size + 1]? = some (.cells Y 31 (0, 0))) := hide fun w' ⟨p, hp⟩ => by rw [hp]; exact at_below (below_regrown w11 p.d p.os) s11
  have RR0 : Hid (∀ w', (∃ p : Regrown, w' = Sort.grow (redrawn w11 p.d) p.os) → w'.heap[G0]? = some (.cells R0 29 (0, 0))) := hide fun w' ⟨p, hp⟩ => by rw [hp]; exact at_below (below_regrown w11 p.d p.os) g0_11
  have RR1 : Hid (∀ w', (∃ p : Regrown, w' = Sort.grow (redrawn w11 p.d) p.os) → w'.heap[G1]? = some (.cells R1 29 (0, 0))) := hide fun w' ⟨p, hp⟩ => by rw [hp]; exact at_below (below_regrown w11 p.d p.os) g1_11
  have RR2 : Hid (∀ w', (∃ p : Regrown, w' = Sort.grow (redrawn w11 p.d) p.os) → w'.heap[G2]? = some (.cells R2 31 (0, 0))) := hide fun w' ⟨p, hp⟩ => by rw [hp]; exact at_below (below_regrown w11 p.d p.os) g2_11
  have RR3 : Hid (∀ w', (∃ p : Regrown, w' = Sort.grow (redrawn w11 p.d) p.os) → w'.heap[G3]? = some (.cells R3 31 (0, 0))) := hide fun w' ⟨p, hp⟩ => by rw [hp]; exact at_below (below_regrown w11 p.d p.os) g3_11
  have kA := hide fun d os => Calls.regrown_of (w := w11) (d := d) (os := os) (unhide A _ ((unhide HT).below (bW11.trans ((below_regrown w11 d os).mono bW11.size)) (Nat.le_refl _)))
  have kB := hide fun d os => Calls.regrown_of (w := w11) (d := d) (os := os) (unhide CB _ (bW11.trans ((below_regrown w11 d os).mono bW11.size)))
  have kBr := hide fun d os => Calls.regrown_of (w := w11) (d := d) (os := os) (unhide CBr _ (bW11.trans ((below_regrown w11 d os).mono bW11.size)))
  have kS := hide fun d os => Calls.regrown_of (w := w11) (d := d) (os := os) (unhide CS _ (bW11.trans ((below_regrown w11 d os).mono bW11.size)))
  have kSr := hide fun d os => Calls.regrown_of (w := w11) (d := d) (os := os) (unhide CSr _ (bW11.trans ((below_regrown w11 d os).mono bW11.size)))
  have kU := hide fun d os => Calls.regrown_of (w := w11) (d := d) (os := os) (unhide US _ R0 R1 (F0_11.below (below_regrown w11 d os)) (F1_11.below (below_regrown w11 d os)))
  have kT := hide fun d os => Calls.regrown_of (w := w11) (d := d) (os := os) (unhide SS _ R2 R3 (F2_11.below (below_regrown w11 d os)) (F3_11.below (below_regrown w11 d os)))
  clear r11 s11 g0_11 F0_11 g1_11 F1_11 g2_11 F2_11 g3_11 F3_11
  go_wp2_with fail
  refine wp_region_below mixed (by kernel_rfl) ?_
  quiet_step (exact unhide kA _ _)
  go_big_quiet_step (fail)
  refine wpQuiet_load_row rfl 29 (.tmp 3) rfl w.heap.size rfl 29 X (0, 0) _ (unhide RX) Tryz.underlying29 rfl iX ?_
  quiet_step (exact unhide kB _ _)
  refine wpQuiet_load_row rfl 29 (.tmp 3) rfl w.heap.size rfl 29 X (0, 0) _ (unhide RX) Tryz.underlying29 rfl iX ?_
  quiet_step (exact unhide kBr _ _)
  go_big_quiet_step (fail)
  go_big_quiet_step (fail)
  go_big_quiet_step (fail)
  refine wpQuiet_load_row rfl 31 (.tmp 4) rfl (w.heap.size + 1) rfl 31 Y (0, 0) _ (unhide RY) Tryz.underlying31 rfl iY ?_
  quiet_step (exact unhide kS _ _)
  refine wpQuiet_load_row rfl 31 (.tmp 4) rfl (w.heap.size + 1) rfl 31 Y (0, 0) _ (unhide RY) Tryz.underlying31 rfl iY ?_
  quiet_step (exact unhide kSr _ _)
  go_big_quiet_step (fail)
  go_big_quiet_step (fail)
  go_big_quiet_step (fail)
  refine wpQuiet_load_row rfl 29 (.tmp 7) rfl G0 rfl 29 R0 (0, 0) _ (unhide RR0) Tryz.underlying29 rfl i0 ?_
  refine wpQuiet_load_row rfl 29 (.tmp 9) rfl G1 rfl 29 R1 (0, 0) _ (unhide RR1) Tryz.underlying29 rfl i1 ?_
  quiet_step (exact unhide kU _ _)
  go_big_quiet_step (fail)
  go_big_quiet_step (fail)
  go_big_quiet_step (fail)
  go_big_quiet_step (fail)
  go_big_quiet_step (fail)
  go_big_quiet_step (fail)
  go_big_quiet_step (fail)
  refine wpQuiet_load_row rfl 31 (.tmp 11) rfl G2 rfl 31 R2 (0, 0) _ (unhide RR2) Tryz.underlying31 rfl i2 ?_
  refine wpQuiet_load_row rfl 31 (.tmp 13) rfl G3 rfl 31 R3 (0, 0) _ (unhide RR3) Tryz.underlying31 rfl i3 ?_
  quiet_step (exact unhide kT _ _)
  repeat (go_big_quiet_step (fail))
  refine wpQuiet_nil ?_
  intro V hbV
  go_wp2
  go_ret
  exact ⟨rfl, bW11.trans (hbV.mono bW11.size)⟩
end Go.Proofs.YtocibklkpnblgaaGreatDoor

namespace Go.Proofs.YtocibklkpnblgaaGreatDoor
open Go.ChangeShapes Go.WideShapes Go.ChangeAt Go.RowKit

theorem shaOwn : ownKnob Tryz.prog.godebug = none := by kernel_rfl
theorem shaLaidOut : laidOutB Tryz.prog = true := by kernel_rfl
theorem gFirst : Tryz.prog.globalNamed "pontoon/sha.firstWords" = some 0 := by kernel_rfl
theorem gFirstType : (Tryz.prog.globals[0]?).map (·.type) = some 127 := by kernel_rfl
theorem gRound : Tryz.prog.globalNamed "pontoon/sha.roundWords" = some 2 := by kernel_rfl
theorem gRoundType : (Tryz.prog.globals[2]?).map (·.type) = some 144 := by kernel_rfl
theorem cells64 : Tryz.prog.cellsOf 144 = 64 := by kernel_rfl
theorem cells8 : Tryz.prog.cellsOf 127 = 8 := by kernel_rfl
theorem cellsW : Tryz.prog.cellsOf 22 = 1 := by kernel_rfl

/-- What a row lists of package sha. -/
def shaListed : List (String × DataW Unit) := [("pontoon/sha.firstWords", Rows.laid_pontoon_sha_firstWords), ("pontoon/sha.roundWords", Rows.laid_pontoon_sha_roundWords)]
def kInts : List Int := [1116352408, 1899447441, 3049323471, 3921009573, 961987163, 1508970993, 2453635748, 2870763221, 3624381080, 310598401, 607225278, 1426881987, 1925078388, 2162078206, 2614888103, 3248222580, 3835390401, 4022224774, 264347078, 604807628, 770255983, 1249150122, 1555081692, 1996064986, 2554220882, 2821834349, 2952996808, 3210313671, 3336571891, 3584528711, 113926993, 338241895, 666307205, 773529912, 1294757372, 1396182291, 1695183700, 1986661051, 2177026350, 2456956037, 2730485921, 2820302411, 3259730800, 3345764771, 3516065817, 3600352804, 4094571909, 275423344, 430227734, 506948616, 659060556, 883997877, 958139571, 1322822218, 1537002063, 1747873779, 1955562222, 2024104815, 2227730452, 2361852424, 2428436474, 2756734187, 3204031479, 3329325298]
def hInts : List Int := [1779033703, 3144134277, 1013904242, 2773480762, 1359893119, 2600822924, 528734635, 1541459225]
theorem kInts_at : ∀ j, j < 64 → kInts.getD j 0 = ((kWords.getD j 0).toNat : Int) := by decide +kernel
theorem hInts_at : ∀ j, j < 8 → hInts.getD j 0 = ((hWords.getD j 0).toNat : Int) := by decide +kernel

theorem tabs_of {W : World} (h : laidMetH Tryz.prog shaListed W) : Tabs W := by
  have h1 : Lib.TabIs Tryz.prog W "pontoon/sha.firstWords" .u32 hInts :=
    Lib.tabIs_of_head (rest := [("pontoon/sha.roundWords", Rows.laid_pontoon_sha_roundWords)]) gFirst gFirstType Tryz.underlying127 Tryz.underlying22 cellsW cells8 h
  have e : shaListed.filter (fun x => x.1 == "pontoon/sha.roundWords") = [("pontoon/sha.roundWords", Rows.laid_pontoon_sha_roundWords)] := by kernel_rfl
  have hf := h.filter (fun x => x.1 == "pontoon/sha.roundWords")
  rw [e] at hf
  have h2 : Lib.TabIs Tryz.prog W "pontoon/sha.roundWords" .u32 kInts :=
    Lib.tabIs_of_head (rest := []) gRound gRoundType Tryz.underlying144 Tryz.underlying22 cellsW cells64 hf
  have k : ∀ j, j < 64 → W.cell? ⟨2, j, none⟩ = some (.int .u32 ((kWords.getD j 0).toNat : Int)) := fun j hj => by
    rw [← kInts_at j hj]; exact h2.cell gRound j (by simpa [kInts] using hj)
  have hh : ∀ j, j < 8 → W.cell? ⟨0, j, none⟩ = some (.int .u32 ((hWords.getD j 0).toNat : Int)) := fun j hj => by
    rw [← hInts_at j hj]; exact h1.cell gFirst j (by simpa [hInts] using hj)
  exact ⟨⟨block_lt_of_cell (hh 0 (by decide)), block_lt_of_cell (k 0 (by decide))⟩, k, hh⟩

/-- A variable's cells turned. -/
def layCells (cs : Array Value) : Obj → Obj
  | .cells _ t frozen => .cells cs t frozen
  | o => o
def hCells : Array Value := #[.int .u32 1779033703, .int .u32 3144134277, .int .u32 1013904242, .int .u32 2773480762, .int .u32 1359893119, .int .u32 2600822924, .int .u32 528734635, .int .u32 1541459225]
def kCells : Array Value := #[.int .u32 1116352408, .int .u32 1899447441, .int .u32 3049323471, .int .u32 3921009573, .int .u32 961987163, .int .u32 1508970993, .int .u32 2453635748, .int .u32 2870763221, .int .u32 3624381080, .int .u32 310598401, .int .u32 607225278, .int .u32 1426881987, .int .u32 1925078388, .int .u32 2162078206, .int .u32 2614888103, .int .u32 3248222580, .int .u32 3835390401, .int .u32 4022224774, .int .u32 264347078, .int .u32 604807628, .int .u32 770255983, .int .u32 1249150122, .int .u32 1555081692, .int .u32 1996064986, .int .u32 2554220882, .int .u32 2821834349, .int .u32 2952996808, .int .u32 3210313671, .int .u32 3336571891, .int .u32 3584528711, .int .u32 113926993, .int .u32 338241895, .int .u32 666307205, .int .u32 773529912, .int .u32 1294757372, .int .u32 1396182291, .int .u32 1695183700, .int .u32 1986661051, .int .u32 2177026350, .int .u32 2456956037, .int .u32 2730485921, .int .u32 2820302411, .int .u32 3259730800, .int .u32 3345764771, .int .u32 3516065817, .int .u32 3600352804, .int .u32 4094571909, .int .u32 275423344, .int .u32 430227734, .int .u32 506948616, .int .u32 659060556, .int .u32 883997877, .int .u32 958139571, .int .u32 1322822218, .int .u32 1537002063, .int .u32 1747873779, .int .u32 1955562222, .int .u32 2024104815, .int .u32 2227730452, .int .u32 2361852424, .int .u32 2428436474, .int .u32 2756734187, .int .u32 3204031479, .int .u32 3329325298]
/-- A world for the witness: the settled one, the two tables holding what their initialisers lay. -/
noncomputable def shaWorld (os : Os) : World :=
  { World.holding Tryz.prog os ⟨#[], #[], []⟩ with heap := ((World.holding Tryz.prog os ⟨#[], #[], []⟩).heap.modify 0 (layCells hCells)).modify 2 (layCells kCells) }
theorem addr_add (b o j : Nat) : (⟨b, o, none⟩ : Addr).add j = ⟨b, o + j, none⟩ := by unfold Addr.add; split <;> simp_all

end Go.Proofs.YtocibklkpnblgaaGreatDoor

namespace Go.Proofs.YtocibklkpnblgaaGreatDoor
open Go.ChangeShapes Go.WideShapes Go.ChangeAt Go.RowKit

theorem mapM_ints {H : Type} {enc : TypeId × Value → H} {P : Program} {W : World} {base : Nat} {sp : Nat → Bool} {held : Bool} {e : TypeId} {q : IntKind} (he : P.underlying e = some (.int q)) {m : Nat} {cs : List Value} {c : Nat} :
    ∀ (L : List Nat) (xs : List (DataW H × List MemPlace)), L.mapM (fun i => DataW.trod enc P W base sp held m e ((cs.drop (i * c)).take c)) = some xs → ∀ i ∈ L, ∃ a, (cs.drop (i * c)).take c = [.int q a] ∧ (Lit.int q a).wf = true
  | [], xs, h => by intro i hi; cases hi
  | i :: L, xs, h => by
    rw [List.mapM_cons] at h
    simp only [bind, Option.bind_eq_some_iff, pure, Option.some.injEq] at h
    obtain ⟨y, hy, ys, hys, rfl⟩ := h
    intro j hj
    rcases List.mem_cons.1 hj with rfl | hj
    · obtain ⟨a, ea, _, wa⟩ := DataW.trod_int he hy
      exact ⟨a, ea, wa⟩
    · exact mapM_ints he L ys hys j hj
/-- The numbers of an array that came in. -/
theorem open_numbers {H : Type} {enc : TypeId × Value → H} {P : Program} {W : World} {base : Nat} {sp : Nat → Bool} {held : Bool} {k e : TypeId} {n : Nat} {q : IntKind} (A : WideMaps.ArrKey P k e n) (he : P.underlying e = some (.int q))
    {xs : Array Value} (hn : xs.size = n) {d : DataW H} {ps : List MemPlace} (hd : DataW.Trod enc P W base sp held k (.agg xs) d ps) :
    ∃ zs : List Int, zs.length = n ∧ xs = (zs.map (Value.int q)).toArray ∧ ∀ z ∈ zs, (Lit.int q z).wf = true := by
  obtain ⟨fuel, hf⟩ := hd
  cases fuel with
  | zero => simp [DataW.trod] at hf
  | succ m =>
    rw [DataW.trod_step] at hf
    unfold DataW.trodStep at hf
    simp only [A.hu, Value.cells] at hf
    rw [if_pos (by rw [A.size]; simpa using hn)] at hf
    simp only [Option.map_eq_some_iff] at hf
    obtain ⟨ys, hy, e1⟩ := hf
    have hc := mapM_ints he _ ys hy
    rw [A.one] at hc
    have hc' : ∀ i, i < n → ∃ a, xs.toList[i]? = some (.int q a) ∧ (Lit.int q a).wf = true := fun i hi => by
      obtain ⟨a, ha, hw⟩ := hc i (List.mem_range.2 hi)
      refine ⟨a, ?_, hw⟩
      rw [Nat.mul_one] at ha
      have h0 : ((xs.toList.drop i).take 1)[0]? = some (.int q a) := by rw [ha]; rfl
      simpa using h0
    refine ⟨xs.toList.map intOf, by simpa using hn, ?_, ?_⟩
    · apply Array.ext'
      simp only [List.map_map]
      apply List.ext_getElem?
      intro i
      by_cases hi : i < n
      · obtain ⟨a, ha, _⟩ := hc' i hi
        rw [ha]; simp [ha, intOf]
      · rw [List.getElem?_eq_none (by simpa [hn] using Nat.le_of_not_lt hi), List.getElem?_eq_none (by simpa [hn] using Nat.le_of_not_lt hi)]
    · intro z hz
      obtain ⟨v, hv, rfl⟩ := List.mem_map.1 hz
      obtain ⟨i, hi, rfl⟩ := List.getElem_of_mem hv
      obtain ⟨a, ha, hw⟩ := hc' i (by simpa [hn] using hi)
      rw [List.getElem?_eq_getElem hi] at ha
      rw [Option.some.inj ha]; exact hw
end Go.Proofs.YtocibklkpnblgaaGreatDoor

namespace Go.Proofs.YtocibklkpnblgaaGreatDoor
open Go.ChangeShapes Go.WideShapes Go.ChangeAt Go.RowKit
set_option linter.unusedVariables false

theorem arrD : WideMaps.ArrKey Tryz.prog 24 5 32 := ⟨Tryz.underlying24, by kernel_rfl, by kernel_rfl, by kernel_rfl⟩
theorem open_digest {H : Type} {enc : TypeId × Value → H} {W : World} {base : Nat} {sp : Nat → Bool} {held : Bool} {xs : Array Value} (hn : xs.size = 32) {d : DataW H} {ps : List MemPlace} (hd : DataW.Trod enc Tryz.prog W base sp held 24 (.agg xs) d ps) :
    ∃ l : List UInt8, xs = bc l ∧ l.length = 32 := by
  obtain ⟨zs, hl, rfl, hw⟩ := open_numbers arrD Tryz.underlying5 hn hd
  have e : ∀ z ∈ zs, ((UInt8.ofNat z.toNat).toNat : Int) = z := fun z hz => by
    have := hw z hz
    simp [Lit.wf, IntKind.min, IntKind.max, IntKind.signed, IntKind.bits] at this
    rw [UInt8.toNat_ofNat']; omega
  refine ⟨zs.map fun z => UInt8.ofNat z.toNat, ?_, by simpa using hl⟩
  unfold bc Lib.byteCells
  rw [List.map_map]
  congr 1
  apply List.map_congr_left
  intro z hz
  simp only [Function.comp_apply]
  rw [e z hz]
/-- A list of digests that came in. -/
theorem open_digs {H : Type} {enc : TypeId × Value → H} {W : World} {base : Nat} {sp : Nat → Bool} {held : Bool} {fuel : Nat} {cs : List Value} {x : DataW H × List MemPlace} (h : DataW.trod enc Tryz.prog W base sp held fuel 25 cs = some x) :
    ∃ p n cap l, cs = [.slice p n cap] ∧ Digs W (.slice p n cap) l ∧ n ≤ maxLen := by
  have hc : Tryz.prog.cellsOf 24 = 32 := by kernel_rfl
  rcases Deep.open_slice Tryz.underlying25 h with ⟨rfl, _⟩ | ⟨a, len, cap, m, n, D, Pl, rfl, hb, hlc, hcm, hm, hx, hel⟩
  · exact ⟨none, 0, 0, [], rfl, ⟨none, 0, 0, rfl, rfl, fun hn => by omega⟩, by simp [maxLen]⟩
  · have hlm : len ≤ m := by rw [hm]; split <;> omega
    rw [hc] at hel
    have hcell : ∀ j, j < 32 * len → ∃ b : UInt8, W.cell? (a.add j) = some (.int .u8 (b.toNat : Int)) := fun j hj => by
      obtain ⟨cs', h1, h2⟩ := hel (j / 32) (by omega)
      obtain ⟨h3, h4, h5⟩ := World.cells?_some h1
      obtain ⟨l, hl, hll⟩ := open_digest (xs := cs'.toArray) (by simpa using h4) ⟨n, h2⟩
      have hr : j % 32 < 32 := Nat.mod_lt _ (by decide)
      have h6 := bc_at l (j % 32) (by omega)
      rw [← hl] at h6
      refine ⟨l.getD (j % 32) 0, ?_⟩
      have h7 := h5 (j % 32) hr
      rw [Deep.add_add, show j / 32 * 32 + j % 32 = j by omega] at h7
      rw [h7]; simpa using h6
    refine ⟨some a, len, cap, (List.range (32 * len)).map fun j => match W.cell? (a.add j) with | some (.int .u8 z) => UInt8.ofNat z.toNat | _ => 0, rfl, ⟨some a, len, cap, rfl, by simp, fun hn => ?_⟩, by omega⟩
    obtain ⟨b, off, spot⟩ := a
    obtain ⟨b0, hb0⟩ := hcell 0 (by omega)
    have hspot : spot = none := by simpa [Addr.add] using World.cell?_spot hb0
    subst hspot
    refine ⟨b, off, rfl, ?_, fun j hj => ?_⟩
    · have := block_lt_of_cell hb0; simpa [Addr.add] using this
    · have hj' : j < 32 * len := by simpa using hj
      obtain ⟨bj, hbj⟩ := hcell j hj'
      have e : (⟨b, off, none⟩ : Addr).add j = ⟨b, off + j, none⟩ := by unfold Addr.add; split <;> simp_all
      rw [e] at hbj
      rw [hbj]
      simp [hj', e, hbj]
/-- A signature that came in. -/
theorem open_sig {H : Type} {enc : TypeId × Value → H} {W : World} {base : Nat} {sp : Nat → Bool} {held : Bool} {cs : Array Value} (hn : cs.size = 4) {d : DataW H} {ps : List MemPlace} (hd : DataW.Trod enc Tryz.prog W base sp held 27 (.agg cs) d ps) :
    ∃ i p1 n1 c1 l1 p2 n2 c2 l2 p3 n3 c3 l3, cs = #[.int .i64 i, .slice p1 n1 c1, .slice p2 n2 c2, .slice p3 n3 c3] ∧ (Lit.int .i64 i).wf = true ∧ Digs W (.slice p1 n1 c1) l1 ∧ Digs W (.slice p2 n2 c2) l2 ∧ Digs W (.slice p3 n3 c3) l3 ∧ n1 ≤ maxLen ∧ n2 ≤ maxLen ∧ n3 ≤ maxLen := by
  obtain ⟨fuel, hf⟩ := hd
  have h3 : Tryz.prog.cellsOf 3 = 1 := by kernel_rfl
  have h25 : Tryz.prog.cellsOf 25 = 1 := by kernel_rfl
  match cs, hn with
  | ⟨[c0, c1, c2, c3]⟩, _ =>
    obtain ⟨y0, y1, y2, y3, n, hx, hl, h0, h1, h2, h4⟩ := Go.Joins.trod_struct4 Tryz.underlying27 hf
    simp only [h3, h25, Value.cells, List.drop_zero, List.take_succ_cons, List.take_zero, List.drop_succ_cons] at h0 h1 h2 h4
    obtain ⟨a, ha, _, hw⟩ := DataW.trod_int Tryz.underlying3 h0
    obtain ⟨p1, n1, k1, l1, e1, D1, m1⟩ := open_digs h1
    obtain ⟨p2, n2, k2, l2, e2, D2, m2⟩ := open_digs h2
    obtain ⟨p3, n3, k3, l3, e3, D3, m3⟩ := open_digs h4
    simp only [List.cons.injEq, and_true] at ha e1 e2 e3
    subst ha e1 e2 e3
    exact ⟨a, p1, n1, k1, l1, p2, n2, k2, l2, p3, n3, k3, l3, rfl, hw, D1, D2, D3, m1, m2, m3⟩
end Go.Proofs.YtocibklkpnblgaaGreatDoor

namespace Go.Proofs.YtocibklkpnblgaaGreatDoor
open Go.ChangeShapes Go.WideShapes Go.ChangeAt Go.RowKit
set_option linter.unusedVariables false

theorem arr_of {c : Array Value} {L : List Value} (h : c.toList = L) : c = L.toArray := by rw [← h]
set_option maxRecDepth 100000 in
theorem open_upd {H : Type} {enc : TypeId × Value → H} {W : World} {base : Nat} {sp : Nat → Bool} {held : Bool} {cs : Array Value} (hn : cs.size = 69) {d : DataW H} {ps : List MemPlace} (hd : DataW.Trod enc Tryz.prog W base sp held 29 (.agg cs) d ps) :
    ∃ home a b i p1 n1 c1 l1 p2 n2 c2 l2 p3 n3 c3 l3, cs = updc home a b #[.int .i64 i, .slice p1 n1 c1, .slice p2 n2 c2, .slice p3 n3 c3] ∧ home < 4294967296 ∧ a.length = 32 ∧ b.length = 32 ∧ (Lit.int .i64 i).wf = true ∧ Digs W (.slice p1 n1 c1) l1 ∧ Digs W (.slice p2 n2 c2) l2 ∧ Digs W (.slice p3 n3 c3) l3 ∧ n1 ≤ maxLen ∧ n2 ≤ maxLen ∧ n3 ≤ maxLen := by
  obtain ⟨fuel, hf⟩ := hd
  have e0 : Tryz.prog.cellsOf 22 = 1 := by kernel_rfl
  have e1 : Tryz.prog.cellsOf 24 = 32 := by kernel_rfl
  have e2 : Tryz.prog.cellsOf 27 = 4 := by kernel_rfl
  obtain ⟨y0, y1, y2, y3, n, hx, hl, h0, h1, h2, h4⟩ := Go.Joins.trod_struct4 Tryz.underlying29 hf
  simp only [e0, e1, e2, Value.cells] at h0 h1 h2 h4
  have hL : cs.toList.length = 69 := by simpa using hn
  generalize hcs : cs.toList = L at *
  obtain ⟨h, ha, _, hw⟩ := DataW.trod_int Tryz.underlying22 h0
  obtain ⟨a, ea, la⟩ := open_digest (xs := ((L.drop 1).take 32).toArray) (by simp; omega) ⟨n, h1⟩
  obtain ⟨b, eb, lb⟩ := open_digest (xs := ((L.drop 33).take 32).toArray) (by simp; omega) ⟨n, h2⟩
  obtain ⟨i, p1, n1, c1, l1, p2, n2, c2, l2, p3, n3, c3, l3, es, hwi, D1, D2, D3, m1, m2, m3⟩ := open_sig (cs := ((L.drop 65).take 4).toArray) (by simp; omega) ⟨n, h4⟩
  simp [Lit.wf, IntKind.min, IntKind.max, IntKind.signed, IntKind.bits] at hw
  obtain ⟨home, rfl⟩ := Int.eq_ofNat_of_zero_le hw.1
  refine ⟨home, a, b, i, p1, n1, c1, l1, p2, n2, c2, l2, p3, n3, c3, l3, ?_, by omega, la, lb, hwi, D1, D2, D3, m1, m2, m3⟩
  have hsplit : L = (L.drop 0).take 1 ++ ((L.drop 1).take 32 ++ ((L.drop 33).take 32 ++ (L.drop 65).take 4)) := by
    rw [List.drop_zero]
    conv => lhs; rw [← List.take_append_drop 1 L, ← List.take_append_drop 32 (L.drop 1), List.drop_drop, ← List.take_append_drop 32 (L.drop (1 + 32)), List.drop_drop]
    rw [List.take_of_length_le (l := L.drop 65) (by rw [List.length_drop]; omega)]
  have f1 : (L.drop 1).take 32 = (bc a).toList := by rw [← ea]
  have f2 : (L.drop 33).take 32 = (bc b).toList := by rw [← eb]
  have f3 : (L.drop 65).take 4 = [.int .i64 i, .slice p1 n1 c1, .slice p2 n2 c2, .slice p3 n3 c3] := by
    have := congrArg Array.toList es; simpa using this
  rw [ha, f1, f2, f3] at hsplit
  rw [arr_of hcs, hsplit]
  unfold updc
  apply Array.toList_inj.1
  simp
set_option maxRecDepth 100000 in
theorem open_stop {H : Type} {enc : TypeId × Value → H} {W : World} {base : Nat} {sp : Nat → Bool} {held : Bool} {cs : Array Value} (hn : cs.size = 38) {d : DataW H} {ps : List MemPlace} (hd : DataW.Trod enc Tryz.prog W base sp held 31 (.agg cs) d ps) :
    ∃ home a x i p1 n1 c1 l1 p2 n2 c2 l2 p3 n3 c3 l3, cs = stopc home a x #[.int .i64 i, .slice p1 n1 c1, .slice p2 n2 c2, .slice p3 n3 c3] ∧ home < 4294967296 ∧ a.length = 32 ∧ (Lit.int .i64 x).wf = true ∧ (Lit.int .i64 i).wf = true ∧ Digs W (.slice p1 n1 c1) l1 ∧ Digs W (.slice p2 n2 c2) l2 ∧ Digs W (.slice p3 n3 c3) l3 ∧ n1 ≤ maxLen ∧ n2 ≤ maxLen ∧ n3 ≤ maxLen := by
  obtain ⟨fuel, hf⟩ := hd
  have e0 : Tryz.prog.cellsOf 22 = 1 := by kernel_rfl
  have e1 : Tryz.prog.cellsOf 24 = 32 := by kernel_rfl
  have e2 : Tryz.prog.cellsOf 27 = 4 := by kernel_rfl
  have e3 : Tryz.prog.cellsOf 3 = 1 := by kernel_rfl
  obtain ⟨y0, y1, y2, y3, n, hx, hl, h0, h1, h2, h4⟩ := Go.Joins.trod_struct4 Tryz.underlying31 hf
  simp only [e0, e1, e2, e3, Value.cells] at h0 h1 h2 h4
  have hL : cs.toList.length = 38 := by simpa using hn
  generalize hcs : cs.toList = L at *
  obtain ⟨h, ha, _, hw⟩ := DataW.trod_int Tryz.underlying22 h0
  obtain ⟨a, ea, la⟩ := open_digest (xs := ((L.drop 1).take 32).toArray) (by simp; omega) ⟨n, h1⟩
  obtain ⟨x, hxx, _, hwx⟩ := DataW.trod_int Tryz.underlying3 h2
  obtain ⟨i, p1, n1, c1, l1, p2, n2, c2, l2, p3, n3, c3, l3, es, hwi, D1, D2, D3, m1, m2, m3⟩ := open_sig (cs := ((L.drop 34).take 4).toArray) (by simp; omega) ⟨n, h4⟩
  simp [Lit.wf, IntKind.min, IntKind.max, IntKind.signed, IntKind.bits] at hw
  obtain ⟨home, rfl⟩ := Int.eq_ofNat_of_zero_le hw.1
  refine ⟨home, a, x, i, p1, n1, c1, l1, p2, n2, c2, l2, p3, n3, c3, l3, ?_, by omega, la, hwx, hwi, D1, D2, D3, m1, m2, m3⟩
  have hsplit : L = (L.drop 0).take 1 ++ ((L.drop 1).take 32 ++ ((L.drop 33).take 1 ++ (L.drop 34).take 4)) := by
    rw [List.drop_zero]
    conv => lhs; rw [← List.take_append_drop 1 L, ← List.take_append_drop 32 (L.drop 1), List.drop_drop, ← List.take_append_drop 1 (L.drop (1 + 32)), List.drop_drop]
    rw [List.take_of_length_le (l := L.drop 34) (by rw [List.length_drop]; omega)]
  have f1 : (L.drop 1).take 32 = (bc a).toList := by rw [← ea]
  have f3 : (L.drop 34).take 4 = [.int .i64 i, .slice p1 n1 c1, .slice p2 n2 c2, .slice p3 n3 c3] := by
    have := congrArg Array.toList es; simpa using this
  rw [ha, f1, hxx, f3] at hsplit
  rw [arr_of hcs, hsplit]
  unfold stopc
  apply Array.toList_inj.1
  simp
end Go.Proofs.YtocibklkpnblgaaGreatDoor
