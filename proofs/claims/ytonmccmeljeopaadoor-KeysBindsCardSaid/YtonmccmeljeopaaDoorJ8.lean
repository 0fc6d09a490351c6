/-
  WHAT keys' Verify RETURNS of a signer's own signature, and of an empty one, where there is no log.
-/
/-
  WHAT keys' Verify RETURNS of a signature whose lists lie anywhere, where there is no log.
-/
/-
  WHAT keys' Verify RETURNS OF ANY SIGNATURE, where there is no log.
-/
/-
  LISTS OF DIGESTS IN MEMORY, as bytes.
-/
/-
  Verify OF ANY SIGNATURE, in one.
-/
/-
  WHAT THE STATEMENTS' SameList, SameSig AND same RETURN OF LIKE ONES, over lists of digests anywhere: true.
-/
/-
  A SIGNATURE THAT IS VERIFIED UNDER A SIGNER's ROOT IS THE KEY's OWN, where a log has no clash; == of two signatures.
-/
/-
  THE DOCUMENT's Right (layer 10) WITH ITS LOG.
-/
/-
  THE DOCUMENT's Root OF LAYER 6 WITH ITS LOG.
-/
/-
  WHAT keys' Verify RETURNS of a signer's own signature and any digest, where there is no log.
-/
/-
  AN UPDATE AS A ROW; WHAT update's Right RETURNS, where there is no log.
-/
/-
  A WALK BESIDE A LOG: what the log says, and the rows that it leaves alone.
-/
import Derived.Test.YtonmccmeljeopaaDoorJ7
import Derived.Test.YtonmccmeljeopaaDoorJ5
import Derived.Test.YtonmccmeljeopaaDoorJ4
import Derived.Deep.DeepCutAuto
import Derived.BigQuiet
import Derived.Test.YtonmccmeljeopaaDoorJ1
import Derived.Test.YtonmccmeljeopaaDoorJ0
import Derived.Deep.MidRow
import Derived.Test.YtonmccmeljeopaaDoorJ6
import Derived.Test.YtonmccmeljeopaaDoorJ3
namespace Go.Proofs.YtonmccmeljeopaaDoor
open Go Go.RowKit
set_option linter.unusedSimpArgs false
set_option linter.unusedVariables false

theorem verify_empty (root d : Array Value) (w : World) :
    Calls Tryd.prog 9 #[.pointer none, .agg root, .agg d, .agg sigZ] w fun e w' => e = .returned (.bool false) ∧ Below w.heap.size w w' := by
  have hb := bel3 w (.cells root 23) (.cells d 23) (.cells sigZ 26)
  have hk := hide fun W => isKey_calls 0 W
  unfold sigZ at *
  go_enter Tryd.func9, Tryd.ntmps9
  go_wp2_with fail
  refine (unhide hk _).mono ?_
  rintro e w1 ⟨rfl, rfl⟩
  go_wp2
  go_ret
  exact ⟨rfl, hb⟩
theorem path_dl {w : World} {ds : List (List UInt8)} (hds : ds.length = 16) (h : ∀ d ∈ ds, d.length = 32) (x : Nat) (hx : x < 16) (gp : Nat) (t : TypeId) (hg : w.heap[gp]? = some (.cells (bc (pathB ds x 4)) t (0, 0))) : DL w (some ⟨gp, 0, none⟩) (kPath ds x) := by
  refine DL_of_cells (fun d hd => ?_) hg ?_
  · obtain ⟨i, hi, rfl⟩ := List.mem_map.1 hd
    exact pathAt_length ds hds h x hx i (List.mem_range.1 hi)
  · have e : (kPath ds x).flatten = pathB ds x 4 := by unfold kPath pathB; rw [List.flatMap_def]
    have hl := pathB_length ds hds h x hx 4 (Nat.le_refl _)
    rw [e, kPath_length, List.take_of_length_le (by simp [bc_size, hl])]
    simp [bc]
set_option maxHeartbeats 4000000 in
set_option maxRecDepth 100000 in
theorem verify_true (seed d : List UInt8) (hs : seed.length = 32) (hd : d.length = 32) (ds : List (List UInt8)) (hds : ds.length = 16) (h32 : ∀ d ∈ ds, d.length = 32) (x : Nat) (hx : x < 16) (hw : ds.getD x [] = pWord seed x) (B : Nat) (cs : Array Value) (w : World) (hS : SigAt w B seed d ds x cs) (tabs : Tabs w) :
    Calls Tryd.prog 9 #[.pointer none, .agg (bc (kRoot ds)), .agg (bc d), .agg cs] w fun e w' => e = .returned (.bool true) ∧ Below w.heap.size w w' := by
  obtain ⟨g, gp, _, _, rfl, s1, s2, s3⟩ := hS.ex
  have hRl := kRoot_length ds hds
  have hiR := digInfo _ hRl
  have hid := digInfo d hd
  have hk := hide fun W => isKey_calls (x : Int) W
  have hkk : (if (0 : Int) ≤ (x : Int) then decide ((x : Int) < 16) else false) = true := by rw [if_pos (by omega)]; simp; omega
  rw [hkk] at hk
  have hPl := pParts_length seed x d 32
  have hOl := pOthers_length seed x d 32
  have co := hide fun W h1 h2 b1 b2 t => opened_calls d hd (pParts seed x d 32) (pOthers seed x d 32) hPl hOl g 0 32 (g + 1) 0 32 W h1 h2 b1 b2 t
  rw [open_word] at co
  have hWl := pWord_length seed x
  have hiW := digInfo _ hWl
  have hzW := zeroSize _ hWl
  have cc := hide fun W hD t => kclimb_calls (pWord seed x) hWl x (by omega) (kPath ds x) (some ⟨gp, 0, none⟩) 4 (by rw [kPath_length]; omega) W hD t
  rw [kPath_length, ← hw, kClimb_root ds hds x hx, hw] at cc
  have heq := hide fun W => dig_self (kRoot ds) hRl W
  have hpd := hide fun (W : World) hg => path_dl (w := W) hds h32 x hx gp 23 hg
  clear hw hS
  generalize kRoot ds = R at *
  generalize pWord seed x = WD at *
  obtain ⟨q0, q1, q2⟩ := al3 w (.cells (bc R) 23) (.cells (bc d) 23) (.cells #[.int .i64 (x : Int), .slice (some ⟨g, 0, none⟩) 32 32, .slice (some ⟨g + 1, 0, none⟩) 32 32, .slice (some ⟨gp, 0, none⟩) 4 4] 26)
  have hb := bel3 w (.cells (bc R) 23) (.cells (bc d) 23) (.cells #[.int .i64 (x : Int), .slice (some ⟨g, 0, none⟩) 32 32, .slice (some ⟨g + 1, 0, none⟩) 32 32, .slice (some ⟨gp, 0, none⟩) 4 4] 26)
  have u1 := hide (Below.at hb (Array.getElem?_eq_some_iff.1 s1).1 s1)
  have u2 := hide (Below.at hb (Array.getElem?_eq_some_iff.1 s2).1 s2)
  have u3 := hide (Below.at hb (Array.getElem?_eq_some_iff.1 s3).1 s3)
  have HT := hide (tabs.below hb (Nat.le_refl _))
  clear hkk hRl s1 s2 s3 tabs hPl hOl h32 hds
  obtain ⟨X, hX⟩ : ∃ X, ((w.alloc (.cells (bc R) 23)).alloc (.cells (bc d) 23)).alloc (.cells #[.int .i64 (x : Int), .slice (some ⟨g, 0, none⟩) 32 32, .slice (some ⟨g + 1, 0, none⟩) 32 32, .slice (some ⟨gp, 0, none⟩) 4 4] 26) = X := ⟨_, rfl⟩
  rw [hX] at q0 q1 q2 hb u1 u2 u3 HT
  have HX := hide hX
  have zX := (Array.getElem?_eq_some_iff.1 q2).1
  have c0 : X.cell? ⟨w.heap.size + 1 + 1, 0, none⟩ = some (.int .i64 (x : Int)) := cell_of_row _ _ _ _ _ _ q2
  have c1 : X.cell? ⟨w.heap.size + 1 + 1, 1, none⟩ = some (.slice (some ⟨g, 0, none⟩) 32 32) := cell_of_row _ _ _ _ _ _ q2
  have c2 : X.cell? ⟨w.heap.size + 1 + 1, 2, none⟩ = some (.slice (some ⟨g + 1, 0, none⟩) 32 32) := cell_of_row _ _ _ _ _ _ q2
  have c3 : X.cell? ⟨w.heap.size + 1 + 1, 3, none⟩ = some (.slice (some ⟨gp, 0, none⟩) 4 4) := cell_of_row _ _ _ _ _ _ q2
  clear hX
  go_enter Tryd.func9, Tryd.ntmps9
  go_wp2_with (rw [unhide HX])
  refine (unhide hk _).mono ?_
  rintro e w1 ⟨rfl, h1⟩
  rw [h1]
  clear h1
  go_wp2_with (refine wpList_load_row rfl 23 (.tmp 6) rfl (w.heap.size + 1) rfl 23 _ (0, 0) _ q1 Tryd.underlying23 rfl hid ?_)
  refine (unhide co _ (Array.getElem?_eq_some_iff.1 (unhide u1)).1 (Array.getElem?_eq_some_iff.1 (unhide u2)).1 (bytes_of_row (unhide u1)) (bytes_of_row (unhide u2)) (unhide HT)).mono ?_
  rintro e w2 ⟨rfl, b2⟩
  have z2 := b2.size
  have bW2 : Below w.heap.size w w2 := hb.trans (b2.mono hb.size)
  go_wp2_with (refine wpList_store_new rfl 23 (.tmp 9) (.tmp 29) rfl w2 _ _ WD rfl rfl hiW hzW ?_; intro w3 q9 b3 z3)
  have b13 : Below X.heap.size X w3 := b2.trans (b3.mono z2)
  have bW3 : Below w.heap.size w w3 := bW2.trans (b3.mono bW2.size)
  have p0 := Below.at b13 (Array.getElem?_eq_some_iff.1 q0).1 q0
  have p2 := Below.at b13 zX q2
  have p3 := Below.at b13 (Array.getElem?_eq_some_iff.1 (unhide u3)).1 (unhide u3)
  have t3 := (unhide HT).below b13 (Nat.le_refl _)
  have zp2 := (Array.getElem?_eq_some_iff.1 p2).1
  obtain ⟨K, hK⟩ : ∃ K, w2.heap.size = K := ⟨_, rfl⟩
  rw [hK] at q9
  rw [hK]
  have R0 : Hid (∀ w', (∃ p : Regrown, w' = Sort.grow (redrawn w3 p.d) p.os) → w'.heap[w.heap.size]? = some (.cells (bc R) 23 (0, 0))) := fun w' ⟨p, hp⟩ => by rw [hp]; exact Below.at (below_regrown w3 p.d p.os) (Array.getElem?_eq_some_iff.1 p0).1 p0
  have R9 : Hid (∀ w', (∃ p : Regrown, w' = Sort.grow (redrawn w3 p.d) p.os) → w'.heap[K]? = some (.cells (bc WD) 23 (0, 0))) := fun w' ⟨p, hp⟩ => by rw [hp]; exact Below.at (below_regrown w3 p.d p.os) (Array.getElem?_eq_some_iff.1 q9).1 q9
  have d0 : ∀ d os, (Sort.grow (redrawn w3 d) os).cell? ⟨w.heap.size + 1 + 1, 0, none⟩ = some (.int .i64 (x : Int)) := fun d os => by
    rw [(below_regrown w3 d os).cell (p := ⟨w.heap.size + 1 + 1, 0, none⟩) zp2]; exact cell_of_row _ _ _ _ _ _ p2
  have d3 : ∀ d os, (Sort.grow (redrawn w3 d) os).cell? ⟨w.heap.size + 1 + 1, 3, none⟩ = some (.slice (some ⟨gp, 0, none⟩) 4 4) := fun d os => by
    rw [(below_regrown w3 d os).cell (p := ⟨w.heap.size + 1 + 1, 3, none⟩) zp2]; exact cell_of_row _ _ _ _ _ _ p2
  have kC := hide fun d os => Calls.regrown_of (w := w3) (d := d) (os := os) (unhide cc _ (unhide hpd _ (Below.at (below_regrown w3 d os) (Array.getElem?_eq_some_iff.1 p3).1 p3)) (t3.below (below_regrown w3 d os) (Nat.le_refl _)))
  clear c0 c1 c2 c3 q0 q1 q2 q9 p0 p2 p3 t3 b2 b3 b13 z2 z3 hK zp2 zX bW2
  go_wp2_with fail
  refine wp_region_below mixed (by kernel_rfl) ?_
  quiet_step (fail)
  quiet_step (fail)
  quiet_step (fail)
  refine wpQuiet_load_row rfl 23 (.tmp 9) rfl K rfl 23 _ (0, 0) _ (unhide R9) Tryd.underlying23 rfl hiW ?_
  quiet_step (fail)
  quiet_step (fail)
  quiet_step (fail)
  quiet_step (fail)
  quiet_step (exact unhide kC _ _)
  refine wpQuiet_load_row rfl 23 (.tmp 5) rfl w.heap.size rfl 23 _ (0, 0) _ (unhide R0) Tryd.underlying23 rfl hiR ?_
  refine wpQuiet_eql rfl 23 23 (.tmp 39) (.tmp 40) rfl _ _ rfl rfl (by kernel_rfl) true (unhide heq) ?_
  quiet_step (fail)
  repeat (quiet_step (fail))
  refine wpQuiet_nil ?_
  intro w4 b4
  go_wp2
  go_ret
  exact ⟨rfl, bW3.trans (b4.mono bW3.size)⟩
end Go.Proofs.YtonmccmeljeopaaDoor

namespace Go.Proofs.YtonmccmeljeopaaDoor
open Go Go.RowKit
set_option linter.unusedSimpArgs false
set_option linter.unusedVariables false

set_option maxHeartbeats 4000000 in
set_option maxRecDepth 100000 in
theorem verify_good (root e : List UInt8) (hRl : root.length = 32) (he : e.length = 32) (x : Nat) (hx : x < 16) (P O : List UInt8) (hPl : P.length = 1024) (hOl : O.length = 1024) (ds : List (List UInt8)) (hds : ds.length = 4) (g1 o1 c1 g2 o2 c2 : Nat) (p3 : Option Addr) (c3 : Nat) (w : World) (hg1 : g1 < w.heap.size) (hg2 : g2 < w.heap.size) (bP : Bytes w g1 o1 P) (bO : Bytes w g2 o2 O) (hD : DL w p3 ds) (tabs : Tabs w) :
    Calls Tryd.prog 9 #[.pointer none, .agg (bc root), .agg (bc e), .agg #[.int .i64 (x : Int), .slice (some ⟨g1, o1, none⟩) 32 c1, .slice (some ⟨g2, o2, none⟩) 32 c2, .slice p3 4 c3]] w fun en w' => en = .returned (.bool (decide (kClimb (pWordOf (pOpen e P O 32)) x ds 4 = root))) ∧ Below w.heap.size w w' := by
  have hiR := digInfo _ hRl
  have hid := digInfo e he
  have hk := hide fun W => isKey_calls (x : Int) W
  have hkk : (if (0 : Int) ≤ (x : Int) then decide ((x : Int) < 16) else false) = true := by rw [if_pos (by omega)]; simp; omega
  rw [hkk] at hk
  have co := hide fun W h1 h2 b1 b2 t => opened_calls e he P O hPl hOl g1 o1 c1 g2 o2 c2 W h1 h2 b1 b2 t
  have hWl : (pWordOf (pOpen e P O 32)).length = 32 := pOf_length _ _
  have hiW := digInfo _ hWl
  have hzW := zeroSize _ hWl
  have cc := hide fun W hD t => kclimb_calls (pWordOf (pOpen e P O 32)) hWl x (by omega) ds p3 c3 (by omega) W hD t
  rw [hds] at cc
  have hTl := kClimb_length (pWordOf (pOpen e P O 32)) x ds hWl 4
  have heq := hide fun W => dig_eq (kClimb (pWordOf (pOpen e P O 32)) x ds 4) root hTl hRl W
  obtain ⟨ans, hans⟩ : ∃ ans, decide (kClimb (pWordOf (pOpen e P O 32)) x ds 4 = root) = ans := ⟨_, rfl⟩
  rw [hans] at heq ⊢
  generalize kClimb (pWordOf (pOpen e P O 32)) x ds 4 = TD at *
  generalize pWordOf (pOpen e P O 32) = WD at *
  generalize root = R at *
  obtain ⟨q0, q1, q2⟩ := al3 w (.cells (bc R) 23) (.cells (bc e) 23) (.cells #[.int .i64 (x : Int), .slice (some ⟨g1, o1, none⟩) 32 c1, .slice (some ⟨g2, o2, none⟩) 32 c2, .slice p3 4 c3] 26)
  have hb := bel3 w (.cells (bc R) 23) (.cells (bc e) 23) (.cells #[.int .i64 (x : Int), .slice (some ⟨g1, o1, none⟩) 32 c1, .slice (some ⟨g2, o2, none⟩) 32 c2, .slice p3 4 c3] 26)
  have u1 := hide (bP.below hb hg1)
  have u2 := hide (bO.below hb hg2)
  have u3 := hide (hD.below hb (Nat.le_refl _))
  have z1 : g1 < (((w.alloc (.cells (bc R) 23)).alloc (.cells (bc e) 23)).alloc (.cells #[.int .i64 (x : Int), .slice (some ⟨g1, o1, none⟩) 32 c1, .slice (some ⟨g2, o2, none⟩) 32 c2, .slice p3 4 c3] 26)).heap.size := Nat.lt_of_lt_of_le hg1 hb.size
  have z2 : g2 < (((w.alloc (.cells (bc R) 23)).alloc (.cells (bc e) 23)).alloc (.cells #[.int .i64 (x : Int), .slice (some ⟨g1, o1, none⟩) 32 c1, .slice (some ⟨g2, o2, none⟩) 32 c2, .slice p3 4 c3] 26)).heap.size := Nat.lt_of_lt_of_le hg2 hb.size
  have HT := hide (tabs.below hb (Nat.le_refl _))
  clear hkk hRl hTl hans tabs hPl hOl hds bP bO hD hg1 hg2
  obtain ⟨X, hX⟩ : ∃ X, ((w.alloc (.cells (bc R) 23)).alloc (.cells (bc e) 23)).alloc (.cells #[.int .i64 (x : Int), .slice (some ⟨g1, o1, none⟩) 32 c1, .slice (some ⟨g2, o2, none⟩) 32 c2, .slice p3 4 c3] 26) = X := ⟨_, rfl⟩
  rw [hX] at q0 q1 q2 hb u1 u2 u3 HT z1 z2
  have Z1 := hide z1
  have Z2 := hide z2
  clear z1 z2
  have HX := hide hX
  have zX := (Array.getElem?_eq_some_iff.1 q2).1
  have k0 : X.cell? ⟨w.heap.size + 1 + 1, 0, none⟩ = some (.int .i64 (x : Int)) := cell_of_row _ _ _ _ _ _ q2
  have k1 : X.cell? ⟨w.heap.size + 1 + 1, 1, none⟩ = some (.slice (some ⟨g1, o1, none⟩) 32 c1) := cell_of_row _ _ _ _ _ _ q2
  have k2 : X.cell? ⟨w.heap.size + 1 + 1, 2, none⟩ = some (.slice (some ⟨g2, o2, none⟩) 32 c2) := cell_of_row _ _ _ _ _ _ q2
  have k3 : X.cell? ⟨w.heap.size + 1 + 1, 3, none⟩ = some (.slice p3 4 c3) := cell_of_row _ _ _ _ _ _ q2
  clear hX
  go_enter Tryd.func9, Tryd.ntmps9
  go_wp2_with (rw [unhide HX])
  refine (unhide hk _).mono ?_
  rintro en w1 ⟨rfl, h1⟩
  rw [h1]
  clear h1
  go_wp2_with (refine wpList_load_row rfl 23 (.tmp 6) rfl (w.heap.size + 1) rfl 23 _ (0, 0) _ q1 Tryd.underlying23 rfl hid ?_)
  refine (unhide co _ (unhide Z1) (unhide Z2) (unhide u1) (unhide u2) (unhide HT)).mono ?_
  rintro en w2 ⟨rfl, b2⟩
  have z2 := b2.size
  have bW2 : Below w.heap.size w w2 := hb.trans (b2.mono hb.size)
  go_wp2_with (refine wpList_store_new rfl 23 (.tmp 9) (.tmp 29) rfl w2 _ _ WD rfl rfl hiW hzW ?_; intro w3 q9 b3 z3)
  have b13 : Below X.heap.size X w3 := b2.trans (b3.mono z2)
  have bW3 : Below w.heap.size w w3 := bW2.trans (b3.mono bW2.size)
  have p0 := Below.at b13 (Array.getElem?_eq_some_iff.1 q0).1 q0
  have p2 := Below.at b13 zX q2
  have D3 := hide ((unhide u3).below b13 (Nat.le_refl _))
  have t3 := (unhide HT).below b13 (Nat.le_refl _)
  have zp2 := (Array.getElem?_eq_some_iff.1 p2).1
  obtain ⟨K, hK⟩ : ∃ K, w2.heap.size = K := ⟨_, rfl⟩
  rw [hK] at q9
  rw [hK]
  have R0 : Hid (∀ w', (∃ p : Regrown, w' = Sort.grow (redrawn w3 p.d) p.os) → w'.heap[w.heap.size]? = some (.cells (bc R) 23 (0, 0))) := fun w' ⟨p, hp⟩ => by rw [hp]; exact Below.at (below_regrown w3 p.d p.os) (Array.getElem?_eq_some_iff.1 p0).1 p0
  have R9 : Hid (∀ w', (∃ p : Regrown, w' = Sort.grow (redrawn w3 p.d) p.os) → w'.heap[K]? = some (.cells (bc WD) 23 (0, 0))) := fun w' ⟨p, hp⟩ => by rw [hp]; exact Below.at (below_regrown w3 p.d p.os) (Array.getElem?_eq_some_iff.1 q9).1 q9
  have d0 : ∀ d os, (Sort.grow (redrawn w3 d) os).cell? ⟨w.heap.size + 1 + 1, 0, none⟩ = some (.int .i64 (x : Int)) := fun d os => by
    rw [(below_regrown w3 d os).cell (p := ⟨w.heap.size + 1 + 1, 0, none⟩) zp2]; exact cell_of_row _ _ _ _ _ _ p2
  have d3 : ∀ d os, (Sort.grow (redrawn w3 d) os).cell? ⟨w.heap.size + 1 + 1, 3, none⟩ = some (.slice p3 4 c3) := fun d os => by
    rw [(below_regrown w3 d os).cell (p := ⟨w.heap.size + 1 + 1, 3, none⟩) zp2]; exact cell_of_row _ _ _ _ _ _ p2
  have kC := hide fun d os => Calls.regrown_of (w := w3) (d := d) (os := os) (unhide cc _ ((unhide D3).below (below_regrown w3 d os) (Nat.le_refl _)) (t3.below (below_regrown w3 d os) (Nat.le_refl _)))
  clear k0 k1 k2 k3 q0 q1 q2 q9 p0 p2 D3 t3 b2 b3 b13 z2 z3 hK zp2 zX bW2
  go_wp2_with fail
  refine wp_region_below mixed (by kernel_rfl) ?_
  quiet_step (fail)
  quiet_step (fail)
  quiet_step (fail)
  refine wpQuiet_load_row rfl 23 (.tmp 9) rfl K rfl 23 _ (0, 0) _ (unhide R9) Tryd.underlying23 rfl hiW ?_
  quiet_step (fail)
  quiet_step (fail)
  quiet_step (fail)
  quiet_step (fail)
  quiet_step (exact unhide kC _ _)
  refine wpQuiet_load_row rfl 23 (.tmp 5) rfl w.heap.size rfl 23 _ (0, 0) _ (unhide R0) Tryd.underlying23 rfl hiR ?_
  refine wpQuiet_eql rfl 23 23 (.tmp 39) (.tmp 40) rfl _ _ rfl rfl (by kernel_rfl) ans (unhide heq) ?_
  quiet_step (fail)
  repeat (quiet_step (fail))
  refine wpQuiet_nil ?_
  intro w4 b4
  go_wp2
  go_ret
  exact ⟨rfl, bW3.trans (b4.mono bW3.size)⟩
end Go.Proofs.YtonmccmeljeopaaDoor

namespace Go.Proofs.YtonmccmeljeopaaDoor
open Go Go.RowKit
set_option linter.unusedSimpArgs false
set_option linter.unusedVariables false

set_option maxHeartbeats 1000000 in
set_option maxRecDepth 100000 in
theorem openedN_calls (d : List UInt8) (hd : d.length = 32) (n1 n2 : Nat) (hn : n1 ≠ 32 ∨ n2 ≠ 32) (p1 p2 : Option Addr) (c1 c2 : Nat) (w : World) :
    Calls Tryd.prog 20 #[.pointer none, .agg (bc d), .slice p1 n1 c1, .slice p2 n2 c2] w fun e w' => e = .returned (.tuple #[.agg (bc (List.replicate 32 0)), .bool false]) ∧ Below w.heap.size w w' := by
  obtain ⟨q0, q1⟩ := al2 w (.cells (bc d) 23) (.cells (bc (List.replicate 32 0)) 23)
  have b0 := bel2 w (.cells (bc d) 23) (.cells (bc (List.replicate 32 0)) 23)
  have hz : (List.replicate 32 (0 : UInt8)).length = 32 := by simp
  have hi1 := digInfo (List.replicate 32 0) hz
  have hz1 := zeroSize (List.replicate 32 0) hz
  have ho1 := bc_oneCell (List.replicate 32 0)
  have hbu : Tryd.prog.built 23 [] = some (bc (List.replicate 32 0)) := by kernel_rfl
  obtain ⟨X, hX⟩ : ∃ X, (w.alloc (.cells (bc d) 23)).alloc (.cells (bc (List.replicate 32 0)) 23) = X := ⟨_, rfl⟩
  rw [hX] at q1 b0
  have HX := hide hX
  generalize hZ : bc (List.replicate 32 0) = Z at *
  have HZ := hide hZ
  have HBU := hide hbu
  clear q0 hX hz hZ hbu
  by_cases h1 : n1 = 32
  · have h2 : n2 ≠ 32 := by omega
    subst h1
    have d2 : ((n2 : Int) == 32) = false := by simp; omega
    clear hn h2
    go_enter Tryd.func20, Tryd.ntmps20
    go_upto_region 1 with fail
    change Code.wp _ _ _ _ ((w.alloc (.cells (bc d) 23)).alloc (.cells (bc (List.replicate 32 0)) 23))
    rw [unhide HZ, unhide HX]
    go_wp2_with (first
      | (refine wpList_build_to rfl 23 #[] rfl Z (unhide HBU) ?_)
      | (refine wpList_store_row rfl 23 (.tmp 8) (.tmp 21) rfl (w.heap.size + 1) Z rfl rfl 23 _ q1 hi1 hz1 ho1 ?_))
    exact bodyPost_ret (results_row_tmp rfl _ _ (w.heap.size + 1) _ _ _ _ rfl (setRow_heap _ _ _ _ _ _ q1) Tryd.underlying23 rfl hi1) rfl ⟨rfl, below_setRow b0 (by omega) _⟩
  · have d1 : ((n1 : Int) == 32) = false := by simp; omega
    clear hn h1
    go_enter Tryd.func20, Tryd.ntmps20
    go_upto_region 1 with fail
    change Code.wp _ _ _ _ ((w.alloc (.cells (bc d) 23)).alloc (.cells (bc (List.replicate 32 0)) 23))
    rw [unhide HZ, unhide HX]
    go_wp2_with (first
      | (refine wpList_build_to rfl 23 #[] rfl Z (unhide HBU) ?_)
      | (refine wpList_store_row rfl 23 (.tmp 8) (.tmp 21) rfl (w.heap.size + 1) Z rfl rfl 23 _ q1 hi1 hz1 ho1 ?_))
    exact bodyPost_ret (results_row_tmp rfl _ _ (w.heap.size + 1) _ _ _ _ rfl (setRow_heap _ _ _ _ _ _ q1) Tryd.underlying23 rfl hi1) rfl ⟨rfl, below_setRow b0 (by omega) _⟩
set_option maxHeartbeats 1000000 in
set_option maxRecDepth 100000 in
/-- An Index of no key, or a path of another length. -/
theorem verify_bad1 (root e : List UInt8) (hR : root.length = 32) (he : e.length = 32) (x : Int) (n1 n2 n3 c1 c2 c3 : Nat) (p1 p2 p3 : Option Addr) (hbad : ¬ (0 ≤ x ∧ x < 16) ∨ n3 ≠ 4) (w : World) :
    Calls Tryd.prog 9 #[.pointer none, .agg (bc root), .agg (bc e), .agg #[.int .i64 x, .slice p1 n1 c1, .slice p2 n2 c2, .slice p3 n3 c3]] w fun en w' => en = .returned (.bool false) ∧ Below w.heap.size w w' := by
  have hk := hide fun W => isKey_calls x W
  obtain ⟨q0, q1, q2⟩ := al3 w (.cells (bc root) 23) (.cells (bc e) 23) (.cells #[.int .i64 x, .slice p1 n1 c1, .slice p2 n2 c2, .slice p3 n3 c3] 26)
  have hb := bel3 w (.cells (bc root) 23) (.cells (bc e) 23) (.cells #[.int .i64 x, .slice p1 n1 c1, .slice p2 n2 c2, .slice p3 n3 c3] 26)
  obtain ⟨X, hX⟩ : ∃ X, ((w.alloc (.cells (bc root) 23)).alloc (.cells (bc e) 23)).alloc (.cells #[.int .i64 x, .slice p1 n1 c1, .slice p2 n2 c2, .slice p3 n3 c3] 26) = X := ⟨_, rfl⟩
  rw [hX] at q2 hb
  have HX := hide hX
  have k0 : X.cell? ⟨w.heap.size + 1 + 1, 0, none⟩ = some (.int .i64 x) := cell_of_row _ _ _ _ _ _ q2
  have k3 : X.cell? ⟨w.heap.size + 1 + 1, 3, none⟩ = some (.slice p3 n3 c3) := cell_of_row _ _ _ _ _ _ q2
  clear hX q0 q1 q2 hR he
  by_cases hx : 0 ≤ x ∧ x < 16
  · have hn3 : n3 ≠ 4 := by
      rcases hbad with h | h
      · exact absurd hx h
      · exact h
    have hkk : (if (0 : Int) ≤ x then decide (x < 16) else false) = true := by rw [if_pos hx.1]; simp; exact hx.2
    rw [hkk] at hk
    have hd : ((n3 : Int) == 4) = false := by simp; omega
    clear hbad hx hn3 hkk
    go_enter Tryd.func9, Tryd.ntmps9
    go_wp2_with (rw [unhide HX])
    refine (unhide hk _).mono ?_
    rintro en w1 ⟨rfl, h1⟩
    rw [h1]
    clear h1
    go_wp2
    go_ret
    exact ⟨rfl, hb⟩
  · have hkk : (if (0 : Int) ≤ x then decide (x < 16) else false) = false := by
      split
      · simp; omega
      · rfl
    rw [hkk] at hk
    clear hbad hx hkk
    go_enter Tryd.func9, Tryd.ntmps9
    go_wp2_with (rw [unhide HX])
    refine (unhide hk _).mono ?_
    rintro en w1 ⟨rfl, h1⟩
    rw [h1]
    clear h1
    go_wp2
    go_ret
    exact ⟨rfl, hb⟩
set_option maxHeartbeats 1000000 in
set_option maxRecDepth 100000 in
/-- Another number of parts. -/
theorem verify_bad2 (root e : List UInt8) (hR : root.length = 32) (he : e.length = 32) (x : Int) (hx0 : 0 ≤ x) (hx1 : x < 16) (n1 n2 c1 c2 c3 : Nat) (p1 p2 p3 : Option Addr) (hn : n1 ≠ 32 ∨ n2 ≠ 32) (w : World) :
    Calls Tryd.prog 9 #[.pointer none, .agg (bc root), .agg (bc e), .agg #[.int .i64 x, .slice p1 n1 c1, .slice p2 n2 c2, .slice p3 4 c3]] w fun en w' => en = .returned (.bool false) ∧ Below w.heap.size w w' := by
  have hid := digInfo e he
  have hk := hide fun W => isKey_calls x W
  have co := hide fun W => openedN_calls e he n1 n2 hn p1 p2 c1 c2 W
  obtain ⟨ZD, hZD⟩ : ∃ Z, List.replicate 32 (0 : UInt8) = Z := ⟨_, rfl⟩
  have hz : ZD.length = 32 := by rw [← hZD]; simp
  have hiW := digInfo ZD hz
  have hzW := zeroSize ZD hz
  rw [hZD] at co
  obtain ⟨q0, q1, q2⟩ := al3 w (.cells (bc root) 23) (.cells (bc e) 23) (.cells #[.int .i64 x, .slice p1 n1 c1, .slice p2 n2 c2, .slice p3 4 c3] 26)
  have hb := bel3 w (.cells (bc root) 23) (.cells (bc e) 23) (.cells #[.int .i64 x, .slice p1 n1 c1, .slice p2 n2 c2, .slice p3 4 c3] 26)
  obtain ⟨X, hX⟩ : ∃ X, ((w.alloc (.cells (bc root) 23)).alloc (.cells (bc e) 23)).alloc (.cells #[.int .i64 x, .slice p1 n1 c1, .slice p2 n2 c2, .slice p3 4 c3] 26) = X := ⟨_, rfl⟩
  rw [hX] at q1 q2 hb
  have HX := hide hX
  have k0 : X.cell? ⟨w.heap.size + 1 + 1, 0, none⟩ = some (.int .i64 x) := cell_of_row _ _ _ _ _ _ q2
  have k1 : X.cell? ⟨w.heap.size + 1 + 1, 1, none⟩ = some (.slice p1 n1 c1) := cell_of_row _ _ _ _ _ _ q2
  have k2 : X.cell? ⟨w.heap.size + 1 + 1, 2, none⟩ = some (.slice p2 n2 c2) := cell_of_row _ _ _ _ _ _ q2
  have k3 : X.cell? ⟨w.heap.size + 1 + 1, 3, none⟩ = some (.slice p3 4 c3) := cell_of_row _ _ _ _ _ _ q2
  have hkk : (if (0 : Int) ≤ x then decide (x < 16) else false) = true := by rw [if_pos hx0]; simp; exact hx1
  rw [hkk] at hk
  clear hX q0 q2 hR he hx0 hx1 hn hkk hz hZD
  go_enter Tryd.func9, Tryd.ntmps9
  go_wp2_with (rw [unhide HX])
  refine (unhide hk _).mono ?_
  rintro en w1 ⟨rfl, h1⟩
  rw [h1]
  clear h1
  go_wp2_with (refine wpList_load_row rfl 23 (.tmp 6) rfl (w.heap.size + 1) rfl 23 _ (0, 0) _ q1 Tryd.underlying23 rfl hid ?_)
  refine (unhide co _).mono ?_
  rintro en w2 ⟨rfl, b2⟩
  have bW2 : Below w.heap.size w w2 := hb.trans (b2.mono hb.size)
  clear k0 k1 k2 k3 q1 b2 hb
  go_wp2_with (refine wpList_store_new rfl 23 (.tmp 9) (.tmp 29) rfl w2 _ _ ZD rfl rfl hiW hzW ?_; intro w3 q9 b3 z3)
  have bW3 : Below w.heap.size w w3 := bW2.trans (b3.mono bW2.size)
  clear b3 bW2 q9 z3
  go_wp2_with fail
  refine wp_region_below mixed (by kernel_rfl) ?_
  quiet_step (fail)
  quiet_step (fail)
  repeat (go_big_quiet_step (fail))
  refine wpQuiet_nil ?_
  intro w4 b4
  go_wp2
  go_ret
  exact ⟨rfl, bW3.trans (b4.mono bW3.size)⟩
end Go.Proofs.YtonmccmeljeopaaDoor

namespace Go.Proofs.YtonmccmeljeopaaDoor
open Go.RowKit
set_option linter.unusedSimpArgs false
set_option linter.unusedVariables false

/-- A list of digests in memory: their bytes. -/
def Digs (w : World) (v : Value) (l : List UInt8) : Prop :=
  ∃ p n cap, v = .slice p n cap ∧ l.length = 32 * n ∧ (0 < n → ∃ b off, p = some ⟨b, off, none⟩ ∧ b < w.heap.size ∧ Bytes w b off l)
theorem Digs.below {w w' : World} {v : Value} {l : List UInt8} (h : Digs w v l) (hb : Below w.heap.size w w') : Digs w' v l := by
  obtain ⟨p, n, cap, rfl, hl, hp⟩ := h
  refine ⟨p, n, cap, rfl, hl, fun hn => ?_⟩
  obtain ⟨b, off, rfl, hlt, hby⟩ := hp hn
  exact ⟨b, off, rfl, Nat.lt_of_lt_of_le hlt hb.size, hby.below hb hlt⟩
/-- A new row of digests. -/
theorem digs_row {w : World} {b k : Nat} {l : List UInt8} {t : TypeId} (hl : l.length = 32 * k) (h : w.heap[b]? = some (.cells (bc l) t (0, 0))) : Digs w (.slice (some ⟨b, 0, none⟩) k k) l :=
  ⟨_, _, _, rfl, hl, fun _ => ⟨b, 0, rfl, (Array.getElem?_eq_some_iff.1 h).1, fun j hj => by rw [Nat.zero_add, cell_of_row _ _ _ _ _ _ h]; exact bc_at _ _ hj⟩⟩

end Go.Proofs.YtonmccmeljeopaaDoor

namespace Go.Proofs.YtonmccmeljeopaaDoor
open Go Go.RowKit
set_option linter.unusedSimpArgs false
set_option linter.unusedVariables false

def chunks4 (Q : List UInt8) : List (List UInt8) := (List.range 4).map (chunk Q)
theorem chunks4_length (Q : List UInt8) : (chunks4 Q).length = 4 := by simp [chunks4]
/-- Whether a signature is one of a digest under a root. -/
def pVer (root e : List UInt8) (x : Int) (n1 n2 n3 : Nat) (P O Q : List UInt8) : Bool :=
  if (0 ≤ x ∧ x < 16) ∧ n3 = 4 then (if n1 = 32 ∧ n2 = 32 then decide (kClimb (pWordOf (pOpen e P O 32)) x.toNat (chunks4 Q) 4 = root) else false) else false
theorem DL_of_digs {w : World} {p : Option Addr} {c : Nat} {Q : List UInt8} (h : Digs w (.slice p 4 c) Q) : DL w p (chunks4 Q) := by
  obtain ⟨p', n, cap, e, hl, hp⟩ := h
  simp only [Value.slice.injEq] at e
  obtain ⟨rfl, rfl, rfl⟩ := e
  obtain ⟨b, off, rfl, hlt, hb⟩ := hp (by omega)
  refine ⟨fun d hd => ?_, fun _ => ⟨b, off, rfl, hlt, fun i hi => ?_⟩⟩
  · obtain ⟨j, hj, rfl⟩ := List.mem_map.1 hd
    exact chunk_length Q j (by have := List.mem_range.1 hj; omega)
  · have hi4 : i < 4 := by simpa [chunks4] using hi
    have e1 : (chunks4 Q).getD i [] = chunk Q i := by simp [chunks4, hi4]
    rw [e1]
    exact bytes_range hb i (by omega)
theorem digs_32 {w : World} {p : Option Addr} {c : Nat} {P : List UInt8} (h : Digs w (.slice p 32 c) P) : P.length = 1024 ∧ ∃ b off, p = some ⟨b, off, none⟩ ∧ b < w.heap.size ∧ Bytes w b off P := by
  obtain ⟨p', n, cap, e, hl, hp⟩ := h
  simp only [Value.slice.injEq] at e
  obtain ⟨rfl, rfl, rfl⟩ := e
  exact ⟨by omega, hp (by omega)⟩
theorem verifyX_calls (root e : List UInt8) (hR : root.length = 32) (he : e.length = 32) (x : Int) (p1 p2 p3 : Option Addr) (n1 n2 n3 c1 c2 c3 : Nat) (P O Q : List UInt8) (w : World) (D1 : Digs w (.slice p1 n1 c1) P) (D2 : Digs w (.slice p2 n2 c2) O) (D3 : Digs w (.slice p3 n3 c3) Q) (tabs : Tabs w) :
    Calls Tryd.prog 9 #[.pointer none, .agg (bc root), .agg (bc e), .agg #[.int .i64 x, .slice p1 n1 c1, .slice p2 n2 c2, .slice p3 n3 c3]] w fun en w' => en = .returned (.bool (pVer root e x n1 n2 n3 P O Q)) ∧ Below w.heap.size w w' := by
  unfold pVer
  by_cases h : (0 ≤ x ∧ x < 16) ∧ n3 = 4
  · rw [if_pos h]
    obtain ⟨⟨h0, h1⟩, rfl⟩ := h
    by_cases h2 : n1 = 32 ∧ n2 = 32
    · rw [if_pos h2]
      obtain ⟨rfl, rfl⟩ := h2
      obtain ⟨l1, b1, o1, rfl, z1, B1⟩ := digs_32 D1
      obtain ⟨l2, b2, o2, rfl, z2, B2⟩ := digs_32 D2
      obtain ⟨k, rfl⟩ := Int.eq_ofNat_of_zero_le h0
      exact verify_good root e hR he k (by omega) P O l1 l2 (chunks4 Q) (chunks4_length Q) b1 o1 c1 b2 o2 c2 p3 c3 w z1 z2 B1 B2 (DL_of_digs D3) tabs
    · rw [if_neg h2]
      exact verify_bad2 root e hR he x h0 h1 n1 n2 c1 c2 c3 p1 p2 p3 (by omega) w
  · rw [if_neg h]
    exact verify_bad1 root e hR he x n1 n2 n3 c1 c2 c3 p1 p2 p3 (by omega) w
end Go.Proofs.YtonmccmeljeopaaDoor

namespace Go.Proofs.YtonmccmeljeopaaDoor
open Go Go.RowKit
set_option linter.unusedSimpArgs false
set_option linter.unusedVariables false

theorem wpList_load_mid_gk {P : Program} {ops : Array Oper} {rest : List Oper} {o : Oper} {a : Act} {w : World} {Q : Exit → Act → World → Prop} (hw : Region.wanted o (yielded ops a.tmps) = true) (ty : TypeId) (x : Operand) (ho : o.op = .load ty x)
    (b off : Nat) (hx : a.eval x = .pointer (some ⟨b, off, none⟩)) (cs : List Value) (d : TypeDesc) (hc : w.rangeAt b off cs)
    (hu : P.underlying ty = some d) (hd : d.isRow = true) (hi : (P.info? ty).map (·.size) = some cs.length)
    (h : wpList P ops Q rest (a.put o.dst (.agg cs.toArray)) w) : wpList P ops Q (o :: rest) a w :=
  wpList_step fun K hK => by
    rw [if_pos hw]
    exact wp_load_mid ty x ho b off hx cs d hc hu hd hi (hK _ _ h)
theorem wpList_eql_gk {P : Program} {ops : Array Oper} {rest : List Oper} {o : Oper} {a : Act} {w : World} {Q : Exit → Act → World → Prop} (hw : Region.wanted o (yielded ops a.tmps) = true) (t t' : TypeId) (x y : Operand) (ho : o.op = .binOp .eql t x y t')
    (u v : Array Value) (hx : a.eval x = .agg u) (hy : a.eval y = .agg v) (hgt : P.eqGuardType P.depth t = false) (b : Bool) (he : ∀ w, (binOp .eql t (.agg u) (.agg v)).run P w = .ok (.bool b) w)
    (h : wpList P ops Q rest (a.put o.dst (.bool b)) w) : wpList P ops Q (o :: rest) a w :=
  wpList_step fun K hK => by
    rw [if_pos hw]
    have hg : (eqGuard .eql t x y (.agg u) (.agg v)).run P w = .ok () w := run_eqGuard_agg w .eql t x y u v hgt
    unfold Oper.wp execOp
    simp only [ho, hx, hy, Sem.run_bind, hg, Result.andThen_ok, he]
    exact hK _ _ h
theorem dig_neqK (d : List UInt8) (hd : d.length = 32) (w : World) : (binOp .neq 23 (.agg (bc d)) (.agg (bc d))).run Tryd.prog w = .ok (.bool false) w := by
  have h := dig_eq d d hd hd w
  rw [decide_eq_true rfl] at h
  simp only [binOp, Op.equal] at h ⊢
  revert h
  simp only [Sem.run_bind]
  cases hh : (Op.equalIn Op.maxDepth 23 (.agg (bc d)) (.agg (bc d))).run Tryd.prog w with
  | ok v w' => intro h; simp [Result.andThen_ok] at h ⊢; obtain ⟨h1, h2⟩ := h; exact ⟨by simp [h1], h2⟩
  | halt e w' => intro h; simp [Result.andThen] at h
def Chunks (w : World) (p : Option Addr) (n : Nat) (f : Nat → List UInt8) : Prop :=
  ∃ b off, p = some ⟨b, off, none⟩ ∧ b < w.heap.size ∧ ∀ i, i < n → w.rangeAt b (off + i * 32) (Lib.byteCells (f i))
theorem Chunks.below {w w' : World} {p : Option Addr} {n : Nat} {f : Nat → List UInt8} (h : Chunks w p n f) (hb : Below w.heap.size w w') : Chunks w' p n f := by
  obtain ⟨b, off, rfl, hlt, hc⟩ := h
  exact ⟨b, off, rfl, Nat.lt_of_lt_of_le hlt hb.size, fun i hi => rangeAt_below (hc i hi) hb hlt⟩
theorem DL.chunks {w : World} {p : Option Addr} {ds : List (List UInt8)} (h : DL w p ds) (hn : ds ≠ []) : Chunks w p ds.length (fun i => ds.getD i []) := by
  obtain ⟨b, off, rfl, hlt, hc⟩ := h.2 hn
  exact ⟨b, off, rfl, hlt, hc⟩
theorem flat_chunks {w : World} {g n : Nat} {t : TypeId} {l : List UInt8} (hl : l.length = 32 * n) (h : w.heap[g]? = some (.cells (bc l) t (0, 0))) : Chunks w (some ⟨g, 0, none⟩) n (fun i => (l.drop (32 * i)).take 32) := by
  refine ⟨g, 0, rfl, (Array.getElem?_eq_some_iff.1 h).1, fun i hi j v hv => ?_⟩
  have hb := bytes_of_row h
  rw [Lib.byteCells, List.getElem?_map] at hv
  rw [List.getElem?_take] at hv
  split at hv
  · rename_i hj
    rw [List.getElem?_drop] at hv
    cases hq : l[32 * i + j]? with
    | none => rw [hq] at hv; simp at hv
    | some x =>
      rw [hq] at hv
      rw [Nat.zero_add, cell_of_row _ _ _ _ _ _ h]
      rw [show i * 32 + j = 32 * i + j by omega]
      rw [← hv]
      simp [bc, Lib.byteCells, hq]
  · simp at hv
set_option maxHeartbeats 1000000 in
set_option maxRecDepth 100000 in
theorem sameL_calls (p1 p2 : Option Addr) (n c1 c2 : Nat) (hnb : n < 4294967296) (f : Nat → List UInt8) (hf : ∀ i, i < n → (f i).length = 32) (w : World) (D1 : Chunks w p1 n f) (D2 : Chunks w p2 n f) :
    Calls Tryd.prog 27 #[.slice p1 n c1, .slice p2 n c2] w fun e w' => e = .returned (.bool true) ∧ Below w.heap.size w w' := by
  have Hp1 := hide D1
  have Hp2 := hide D2
  have Hf := hide hf
  clear D1 D2 hf
  go_enter Tryd.func27, Tryd.ntmps27
  go_wp2
  go_loopw [13] (fun i wr => ∃ j : Nat, j ≤ n ∧ i = .int .i64 (j : Int) ∧ Below w.heap.size w wr) (fun i _ => n - (intOf i).toNat)
  case atStart => exact ⟨0, by omega, rfl, Below.refl _ _⟩
  case round =>
    obtain ⟨j, hj, rfl, hb⟩ := hrel
    by_cases hlt : j < n
    · have hd : decide (j < n) = true := by simpa using hlt
      have bk : (j : Int) < (n : Int) := by omega
      obtain ⟨b1, off1, rfl, hz1, hby1⟩ := unhide Hp1
      obtain ⟨b2, off2, rfl, hz2, hby2⟩ := unhide Hp2
      have hch := unhide Hf j hlt
      have hr1 := hby1 j hlt
      have hr2 := hby2 j hlt
      obtain ⟨ch, hcc⟩ : ∃ ch, f j = ch := ⟨_, rfl⟩
      rw [hcc] at hch hr1 hr2
      have hC : ∀ w', (∃ p : Regrown, w' = Sort.grow (redrawn wr p.d) p.os) → Below w.heap.size w w' := fun w' ⟨p, hp⟩ => by
        rw [hp]; exact hb.trans ((below_regrown wr p.d p.os).mono hb.size)
      have r1 : Hid (∀ w', (∃ p : Regrown, w' = Sort.grow (redrawn wr p.d) p.os) → w'.rangeAt b1 (off1 + j * 32) (Lib.byteCells ch)) := fun w' hw' => rangeAt_below hr1 (hC w' hw') hz1
      have r2 : Hid (∀ w', (∃ p : Regrown, w' = Sort.grow (redrawn wr p.d) p.os) → w'.rangeAt b2 (off2 + j * 32) (Lib.byteCells ch)) := fun w' hw' => rangeAt_below hr2 (hC w' hw') hz2
      have hil : (Tryd.prog.info? 23).map (·.size) = some (Lib.byteCells ch).length := by rw [Lib.byteCells_length, hch]; kernel_rfl
      have hne := hide fun W => dig_neqK ch hch W
      clear hC hby1 hby2 hz1 hz2 hr1 hr2 hcc hch
      go_wp2_with fail
      refine wp_region_below mixed (by kernel_rfl) ?_
      quiet_step (fail)
      quiet_step (fail)
      quiet_step (fail)
      refine wpQuiet_load_mid rfl 23 (.tmp 18) rfl b1 (off1 + j * 32) rfl (Lib.byteCells ch) _ (unhide r1) Tryd.underlying23 rfl hil ?_
      quiet_step (fail)
      quiet_step (fail)
      quiet_step (fail)
      refine wpQuiet_load_mid rfl 23 (.tmp 22) rfl b2 (off2 + j * 32) rfl (Lib.byteCells ch) _ (unhide r2) Tryd.underlying23 rfl hil ?_
      have hne' : ∀ w, (binOp .neq 23 (.agg (Lib.byteCells ch).toArray) (.agg (Lib.byteCells ch).toArray)).run Tryd.prog w = .ok (.bool false) w := fun W => by have := unhide hne W; simpa [bc] using this
      quiet_step (fail)
      refine wpQuiet_nil ?_
      intro w3 hb3
      clear hne hne' hil r1 r2
      go_wp2
      go_roundw
      case rel => exact ⟨j + 1, by omega, by go_num, hb.trans (hb3.mono hb.size)⟩
      case measure => simp [intOf]; omega
    · have hd : decide (j < n) = false := by simpa using hlt
      go_wp2
      go_ret
      exact ⟨rfl, hb⟩
set_option maxHeartbeats 1000000 in
set_option maxRecDepth 100000 in
theorem sameS_calls (i : Int) (p1 p2 p3 q1 q2 q3 : Option Addr) (n1 n2 n3 c1 c2 c3 e1 e2 e3 : Nat) (h1 : n1 < 4294967296) (h2 : n2 < 4294967296) (h3 : n3 < 4294967296) (f1 f2 f3 : Nat → List UInt8) (hf1 : ∀ i, i < n1 → (f1 i).length = 32) (hf2 : ∀ i, i < n2 → (f2 i).length = 32) (hf3 : ∀ i, i < n3 → (f3 i).length = 32) (w : World)
    (A1 : Chunks w p1 n1 f1) (A2 : Chunks w p2 n2 f2) (A3 : Chunks w p3 n3 f3) (B1 : Chunks w q1 n1 f1) (B2 : Chunks w q2 n2 f2) (B3 : Chunks w q3 n3 f3) :
    Calls Tryd.prog 12 #[.agg #[.int .i64 i, .slice p1 n1 c1, .slice p2 n2 c2, .slice p3 n3 c3], .agg #[.int .i64 i, .slice q1 n1 e1, .slice q2 n2 e2, .slice q3 n3 e3]] w fun e w' => e = .returned (.bool true) ∧ Below w.heap.size w w' := by
  have r0 := (al2 w (.cells #[.int .i64 i, .slice p1 n1 c1, .slice p2 n2 c2, .slice p3 n3 c3] 26) (.cells #[.int .i64 i, .slice q1 n1 e1, .slice q2 n2 e2, .slice q3 n3 e3] 26)).1
  have r1 := (al2 w (.cells #[.int .i64 i, .slice p1 n1 c1, .slice p2 n2 c2, .slice p3 n3 c3] 26) (.cells #[.int .i64 i, .slice q1 n1 e1, .slice q2 n2 e2, .slice q3 n3 e3] 26)).2
  have hb0 := bel2 w (.cells #[.int .i64 i, .slice p1 n1 c1, .slice p2 n2 c2, .slice p3 n3 c3] 26) (.cells #[.int .i64 i, .slice q1 n1 e1, .slice q2 n2 e2, .slice q3 n3 e3] 26)
  have z0 : ((w.alloc (.cells #[.int .i64 i, .slice p1 n1 c1, .slice p2 n2 c2, .slice p3 n3 c3] 26)).alloc (.cells #[.int .i64 i, .slice q1 n1 e1, .slice q2 n2 e2, .slice q3 n3 e3] 26)).heap.size = w.heap.size + 1 + 1 := by simp
  go_enter Tryd.func12, Tryd.ntmps12
  go_wp2_with fail
  refine (sameL_calls _ _ n1 _ _ h1 f1 hf1 ((w.alloc (.cells #[.int .i64 i, .slice p1 n1 c1, .slice p2 n2 c2, .slice p3 n3 c3] 26)).alloc (.cells #[.int .i64 i, .slice q1 n1 e1, .slice q2 n2 e2, .slice q3 n3 e3] 26)) (A1.below hb0) (B1.below hb0)).mono ?_
  generalize (w.alloc (.cells #[.int .i64 i, .slice p1 n1 c1, .slice p2 n2 c2, .slice p3 n3 c3] 26)).alloc (.cells #[.int .i64 i, .slice q1 n1 e1, .slice q2 n2 e2, .slice q3 n3 e3] 26) = X at *
  rintro e w1 ⟨rfl, hb1⟩
  have s0 := Below.at hb1 (by omega) r0
  have s1 := Below.at hb1 (by omega) r1
  have b1 := hb0.trans (hb1.mono hb0.size)
  have z1 := hb1.size
  have k02 : w1.cell? ⟨w.heap.size, 2, none⟩ = some (.slice p2 n2 c2) := cell_of_row _ _ _ _ _ _ s0
  have k12 : w1.cell? ⟨w.heap.size + 1, 2, none⟩ = some (.slice q2 n2 e2) := cell_of_row _ _ _ _ _ _ s1
  clear r0 r1 hb0 hb1
  go_wp2_with fail
  refine (sameL_calls _ _ n2 _ _ h2 f2 hf2 w1 (A2.below b1) (B2.below b1)).mono ?_
  rintro e w2 ⟨rfl, hb2⟩
  have t0 := Below.at hb2 (by omega) s0
  have t1 := Below.at hb2 (by omega) s1
  have b2 := b1.trans (hb2.mono b1.size)
  have k03 : w2.cell? ⟨w.heap.size, 3, none⟩ = some (.slice p3 n3 c3) := cell_of_row _ _ _ _ _ _ t0
  have k13 : w2.cell? ⟨w.heap.size + 1, 3, none⟩ = some (.slice q3 n3 e3) := cell_of_row _ _ _ _ _ _ t1
  clear s0 s1 hb2 k02 k12 t0 t1
  go_wp2_with fail
  refine (sameL_calls _ _ n3 _ _ h3 f3 hf3 w2 (A3.below b2) (B3.below b2)).mono ?_
  rintro e w3 ⟨rfl, hb3⟩
  clear k03 k13
  go_wp2
  go_ret
  exact ⟨rfl, b2.trans (hb3.mono b2.size)⟩
end Go.Proofs.YtonmccmeljeopaaDoor

namespace Go.Proofs.YtonmccmeljeopaaDoor
open Go Go.RowKit
set_option linter.unusedSimpArgs false
set_option linter.unusedVariables false

theorem climb_own (ds : List (List UInt8)) (hds : ds.length = 16) (h32 : ∀ d ∈ ds, d.length = 32) (leaf : List UInt8) (hl : leaf.length = 32) (x : Nat) (hx : x < 16) (Q : List (List UInt8)) (hQ : ∀ k, k < 4 → (Q.getD k []).length = 32) (J : List (List UInt8)) (hap : ¬ cnt J < J.length) (hk : ∀ k, k < 4 → kIn leaf x Q k ∈ J) (hn : KNoted ds 4 0 J) (h : kClimb leaf x Q 4 = kRoot ds) :
    leaf = ds.getD x [] ∧ ∀ k, k < 4 → Q.getD k [] = (kPath ds x).getD k [] := by
  have hl0 : (ds.getD x []).length = 32 := getD_32 h32 x (by omega)
  have hp : ∀ k, k < 4 → ((kPath ds x).getD k []).length = 32 := fun k hk => by
    rw [kPath_at ds x k hk]; exact pathAt_length ds hds h32 x hx k hk
  have go : ∀ j k, k + j = 4 → kClimb leaf x Q k = kClimb (ds.getD x []) x (kPath ds x) k ∧ ∀ m, k ≤ m → m < 4 → Q.getD m [] = (kPath ds x).getD m [] := by
    intro j
    induction j with
    | zero =>
      intro k e
      have e4 : k = 4 := by omega
      refine ⟨by rw [e4, h, kClimb_root ds hds x hx], fun m h1 h2 => by omega⟩
    | succ j ih =>
      intro k e
      obtain ⟨h1, h0⟩ := ih (k + 1) (by omega)
      have hk4 : k < 4 := by omega
      have a1 := hk k hk4
      have a2 := kIn_noted ds hds J x hx hn k hk4
      have l1 := kClimb_length leaf x Q hl k
      have l2 := kClimb_length (ds.getD x []) x (kPath ds x) hl0 k
      have l3 := hp k hk4
      have l4 := hQ k hk4
      unfold kIn at a1 a2
      unfold kClimb at h1
      have both : kClimb leaf x Q k = kClimb (ds.getD x []) x (kPath ds x) k ∧ Q.getD k [] = (kPath ds x).getD k [] := by
        by_cases hb : x / 2 ^ k % 2 = 1
        · rw [if_pos hb] at a1 a2 h1
          rw [if_pos hb] at h1
          have := rIn_inj l4 l1 l3 l2 (apart_of J hap _ _ a1 a2 h1)
          exact ⟨this.2, this.1⟩
        · rw [if_neg hb] at a1 a2 h1
          rw [if_neg hb] at h1
          exact rIn_inj l1 l4 l2 l3 (apart_of J hap _ _ a1 a2 h1)
      refine ⟨both.1, fun m h2 h3 => ?_⟩
      by_cases e2 : m = k
      · rw [e2]; exact both.2
      · exact h0 m (by omega) h3
  exact ⟨(go 4 0 rfl).1, fun k hk => (go 4 0 rfl).2 k (Nat.zero_le _) hk⟩
theorem own_pure (seed : List UInt8) (hs : seed.length = 32) (x : Nat) (hx : x < 16) (e P O : List UInt8) (hP : P.length = 1024) (hO : O.length = 1024) (Q : List (List UInt8)) (hQ : ∀ k, k < 4 → (Q.getD k []).length = 32) (J : List (List UInt8)) (hap : ¬ cnt J < J.length) (hw : WAll seed 16 J) (hv : VNot e P O x Q J) (hn : KNoted (pLeaves seed) 4 0 J) (h : kClimb (pWordOf (pOpen e P O 32)) x Q 4 = kRoot (pLeaves seed)) :
    (∀ i, i < 32 → chunk (pParts seed x e 32) i = chunk P i) ∧ (∀ i, i < 32 → chunk (pOthers seed x e 32) i = chunk O i) ∧ ∀ k, k < 4 → (kPath (pLeaves seed) x).getD k [] = Q.getD k [] := by
  obtain ⟨h1, h2⟩ := climb_own (pLeaves seed) (pLeaves_len seed) (pLeaves_32 seed) _ (pOf_length _ _) x hx Q hQ J hap hv.2.2 hn h
  rw [leaf_wordQ seed x hx] at h1
  have key : ∀ i, i < 32 → chunk P i = pSecret seed x i (pBit e i) ∧ chunk O i = pPublic (pSecret seed x i (1 - pBit e i)) := by
    intro i hi
    have ho := word_open seed x e P O hP hO J hap (hw x hx).2 hv.2.1 h1 i hi
    unfold openAt at ho
    rw [pubAt_even, pubAt_odd] at ho
    have hb := pBit_lt e i
    have hc := chunk_length P i (by omega)
    have hco := chunk_length O i (by omega)
    have hn1 := hv.1 i hi
    have w0 := (hw x hx).1 (2 * i) (by omega)
    have w1 := (hw x hx).1 (2 * i + 1) (by omega)
    rw [show 2 * i / 2 = i by omega, show 2 * i % 2 = 0 by omega] at w0
    rw [show (2 * i + 1) / 2 = i by omega, show (2 * i + 1) % 2 = 1 by omega] at w1
    by_cases e0 : pBit e i = 0
    · rw [if_pos e0] at ho
      obtain ⟨h3, h4⟩ := List.append_inj ho (by rw [pPublic_length, pPublic_length])
      rw [e0]
      exact ⟨uIn_inj hc (pSecret_length _ _ _ _) (apart_of J hap _ _ hn1 w0.2 h3), h4⟩
    · rw [if_neg e0] at ho
      obtain ⟨h3, h4⟩ := List.append_inj ho (by rw [pPublic_length, hco])
      rw [show pBit e i = 1 by omega]
      exact ⟨uIn_inj hc (pSecret_length _ _ _ _) (apart_of J hap _ _ hn1 w1.2 h4), h3⟩
  exact ⟨fun i hi => by rw [part_chunk seed x e i hi, (key i hi).1], fun i hi => by rw [other_chunk seed x e i hi, (key i hi).2], fun k hk => (h2 k hk).symm⟩

theorem dig_neqG (a b : List UInt8) (ha : a.length = 32) (hb : b.length = 32) (w : World) : (binOp .neq 23 (.agg (bc a)) (.agg (bc b))).run Tryd.prog w = .ok (.bool (!decide (a = b))) w := by
  have h := dig_eq a b ha hb w
  simp only [binOp, Op.equal] at h ⊢
  revert h
  simp only [Sem.run_bind]
  cases hh : (Op.equalIn Op.maxDepth 23 (.agg (bc a)) (.agg (bc b))).run Tryd.prog w with
  | ok v w' => intro h; simp [Result.andThen_ok] at h ⊢; obtain ⟨h1, h2⟩ := h; exact ⟨by simp [h1], h2⟩
  | halt e w' => intro h; simp [Result.andThen] at h
/-- A list of digests in memory, as chunks. -/
theorem Digs.chunks {w : World} {p : Option Addr} {n c : Nat} {l : List UInt8} (hn : 0 < n) (h : Digs w (.slice p n c) l) : Chunks w p n (chunk l) := by
  obtain ⟨p', n', cap, e, hl, hp⟩ := h
  simp only [Value.slice.injEq] at e
  obtain ⟨rfl, rfl, rfl⟩ := e
  obtain ⟨b, off, rfl, hlt, hb⟩ := hp hn
  exact ⟨b, off, rfl, hlt, fun i hi => bytes_range hb i (by omega)⟩
def allEq (n : Nat) (f g : Nat → List UInt8) : Bool := decide (∀ i, i < n → f i = g i)
set_option maxHeartbeats 1000000 in
set_option maxRecDepth 100000 in
theorem sameLX_calls (p1 p2 : Option Addr) (n c1 c2 : Nat) (hnb : n < 4294967296) (f g : Nat → List UInt8) (hf : ∀ i, i < n → (f i).length = 32) (hg : ∀ i, i < n → (g i).length = 32) (w : World) (D1 : Chunks w p1 n f) (D2 : Chunks w p2 n g) :
    Calls Tryd.prog 27 #[.slice p1 n c1, .slice p2 n c2] w fun e w' => e = .returned (.bool (allEq n f g)) ∧ Below w.heap.size w w' := by
  have Hp1 := hide D1
  have Hp2 := hide D2
  have Hf := hide hf
  have Hg := hide hg
  have Hyes : Hid ((∀ i, i < n → f i = g i) → allEq n f g = true) := hide fun h => decide_eq_true h
  have Hno : Hid (∀ i, i < n → f i ≠ g i → allEq n f g = false) := hide fun i hi h => decide_eq_false fun h2 => h (h2 i hi)
  generalize allEq n f g = ans at *
  clear D1 D2 hf hg
  go_enter Tryd.func27, Tryd.ntmps27
  go_wp2
  go_loopw [13] (fun i wr => ∃ j : Nat, j ≤ n ∧ i = .int .i64 (j : Int) ∧ Below w.heap.size w wr ∧ Hid (∀ k, k < j → f k = g k)) (fun i _ => n - (intOf i).toNat)
  case atStart => exact ⟨0, by omega, rfl, Below.refl _ _, hide fun k hk => absurd hk (Nat.not_lt_zero _)⟩
  case round =>
    obtain ⟨j, hj, rfl, hb, hsf⟩ := hrel
    by_cases hlt : j < n
    · have hd : decide (j < n) = true := by simpa using hlt
      have bk : (j : Int) < (n : Int) := by omega
      obtain ⟨b1, off1, rfl, hz1, hby1⟩ := unhide Hp1
      obtain ⟨b2, off2, rfl, hz2, hby2⟩ := unhide Hp2
      have hch := unhide Hf j hlt
      have hcg := unhide Hg j hlt
      have hr1 := hby1 j hlt
      have hr2 := hby2 j hlt
      obtain ⟨ch, hcc⟩ : ∃ ch, f j = ch := ⟨_, rfl⟩
      obtain ⟨cg, hgg⟩ : ∃ ch, g j = ch := ⟨_, rfl⟩
      have HCC := hide hcc
      have HGG := hide hgg
      rw [hcc] at hch hr1
      rw [hgg] at hcg hr2
      have hC : ∀ w', (∃ p : Regrown, w' = Sort.grow (redrawn wr p.d) p.os) → Below w.heap.size w w' := fun w' ⟨p, hp⟩ => by
        rw [hp]; exact hb.trans ((below_regrown wr p.d p.os).mono hb.size)
      have r1 : Hid (∀ w', (∃ p : Regrown, w' = Sort.grow (redrawn wr p.d) p.os) → w'.rangeAt b1 (off1 + j * 32) (Lib.byteCells ch)) := fun w' hw' => rangeAt_below hr1 (hC w' hw') hz1
      have r2 : Hid (∀ w', (∃ p : Regrown, w' = Sort.grow (redrawn wr p.d) p.os) → w'.rangeAt b2 (off2 + j * 32) (Lib.byteCells cg)) := fun w' hw' => rangeAt_below hr2 (hC w' hw') hz2
      have hil : (Tryd.prog.info? 23).map (·.size) = some (Lib.byteCells ch).length := by rw [Lib.byteCells_length, hch]; kernel_rfl
      have hig : (Tryd.prog.info? 23).map (·.size) = some (Lib.byteCells cg).length := by rw [Lib.byteCells_length, hcg]; kernel_rfl
      have hne := hide fun W => dig_neqG ch cg hch hcg W
      obtain ⟨df, hdf⟩ : ∃ b, (!decide (ch = cg)) = b := ⟨_, rfl⟩
      have HDF := hide hdf
      rw [hdf] at hne
      clear hC hby1 hby2 hz1 hz2 hr1 hr2 hcc hch hgg hcg hdf
      go_wp2_with fail
      refine wp_region_below mixed (by kernel_rfl) ?_
      quiet_step (fail)
      quiet_step (fail)
      quiet_step (fail)
      refine wpQuiet_load_mid rfl 23 (.tmp 18) rfl b1 (off1 + j * 32) rfl (Lib.byteCells ch) _ (unhide r1) Tryd.underlying23 rfl hil ?_
      quiet_step (fail)
      quiet_step (fail)
      quiet_step (fail)
      refine wpQuiet_load_mid rfl 23 (.tmp 22) rfl b2 (off2 + j * 32) rfl (Lib.byteCells cg) _ (unhide r2) Tryd.underlying23 rfl hig ?_
      have hne' : ∀ w, (binOp .neq 23 (.agg (Lib.byteCells ch).toArray) (.agg (Lib.byteCells cg).toArray)).run Tryd.prog w = .ok (.bool df) w := fun W => by have := unhide hne W; simpa [bc] using this
      quiet_step (fail)
      refine wpQuiet_nil ?_
      intro w3 hb3
      clear hne hne' hil hig r1 r2
      cases df with
      | false =>
        have he : f j = g j := by rw [unhide HCC, unhide HGG]; have := unhide HDF; simpa using this
        have hsn : Hid (∀ k, k < j + 1 → f k = g k) := hide fun k hk => by
          by_cases e2 : k = j
          · rw [e2]; exact he
          · exact unhide hsf k (by omega)
        clear he
        go_wp2
        go_roundw
        case rel => exact ⟨j + 1, by omega, by go_num, hb.trans (hb3.mono hb.size), hsn⟩
        case measure => simp [intOf]; omega
      | true =>
        have he : ans = false := unhide Hno j hlt (by rw [unhide HCC, unhide HGG]; have := unhide HDF; simpa using this)
        subst he
        go_wp2
        go_ret
        exact ⟨rfl, hb.trans (hb3.mono hb.size)⟩
    · have hd : decide (j < n) = false := by simpa using hlt
      have he : ans = true := unhide Hyes (fun k hk => unhide hsf k (by omega))
      subst he
      go_wp2
      go_ret
      exact ⟨rfl, hb⟩
set_option maxHeartbeats 1000000 in
set_option maxRecDepth 100000 in
theorem sameSX_calls (i : Int) (p1 p2 p3 q1 q2 q3 : Option Addr) (n1 n2 n3 c1 c2 c3 e1 e2 e3 : Nat) (h1 : n1 < 4294967296) (h2 : n2 < 4294967296) (h3 : n3 < 4294967296) (f1 f2 f3 g1 g2 g3 : Nat → List UInt8) (hf1 : ∀ i, i < n1 → (f1 i).length = 32) (hf2 : ∀ i, i < n2 → (f2 i).length = 32) (hf3 : ∀ i, i < n3 → (f3 i).length = 32) (hg1 : ∀ i, i < n1 → (g1 i).length = 32) (hg2 : ∀ i, i < n2 → (g2 i).length = 32) (hg3 : ∀ i, i < n3 → (g3 i).length = 32) (w : World)
    (A1 : Chunks w p1 n1 f1) (A2 : Chunks w p2 n2 f2) (A3 : Chunks w p3 n3 f3) (B1 : Chunks w q1 n1 g1) (B2 : Chunks w q2 n2 g2) (B3 : Chunks w q3 n3 g3) :
    Calls Tryd.prog 12 #[.agg #[.int .i64 i, .slice p1 n1 c1, .slice p2 n2 c2, .slice p3 n3 c3], .agg #[.int .i64 i, .slice q1 n1 e1, .slice q2 n2 e2, .slice q3 n3 e3]] w fun e w' => e = .returned (.bool (allEq n1 f1 g1 && (allEq n2 f2 g2 && allEq n3 f3 g3))) ∧ Below w.heap.size w w' := by
  have r0 := (al2 w (.cells #[.int .i64 i, .slice p1 n1 c1, .slice p2 n2 c2, .slice p3 n3 c3] 26) (.cells #[.int .i64 i, .slice q1 n1 e1, .slice q2 n2 e2, .slice q3 n3 e3] 26)).1
  have r1 := (al2 w (.cells #[.int .i64 i, .slice p1 n1 c1, .slice p2 n2 c2, .slice p3 n3 c3] 26) (.cells #[.int .i64 i, .slice q1 n1 e1, .slice q2 n2 e2, .slice q3 n3 e3] 26)).2
  have hb0 := bel2 w (.cells #[.int .i64 i, .slice p1 n1 c1, .slice p2 n2 c2, .slice p3 n3 c3] 26) (.cells #[.int .i64 i, .slice q1 n1 e1, .slice q2 n2 e2, .slice q3 n3 e3] 26)
  have z0 : ((w.alloc (.cells #[.int .i64 i, .slice p1 n1 c1, .slice p2 n2 c2, .slice p3 n3 c3] 26)).alloc (.cells #[.int .i64 i, .slice q1 n1 e1, .slice q2 n2 e2, .slice q3 n3 e3] 26)).heap.size = w.heap.size + 1 + 1 := by simp
  have S1 := hide fun W a b => sameLX_calls p1 q1 n1 c1 e1 h1 f1 g1 hf1 hg1 W a b
  have S2 := hide fun W a b => sameLX_calls p2 q2 n2 c2 e2 h2 f2 g2 hf2 hg2 W a b
  have S3 := hide fun W a b => sameLX_calls p3 q3 n3 c3 e3 h3 f3 g3 hf3 hg3 W a b
  generalize allEq n1 f1 g1 = a1 at *
  generalize allEq n2 f2 g2 = a2 at *
  generalize allEq n3 f3 g3 = a3 at *
  go_enter Tryd.func12, Tryd.ntmps12
  go_wp2_with fail
  refine (unhide S1 ((w.alloc (.cells #[.int .i64 i, .slice p1 n1 c1, .slice p2 n2 c2, .slice p3 n3 c3] 26)).alloc (.cells #[.int .i64 i, .slice q1 n1 e1, .slice q2 n2 e2, .slice q3 n3 e3] 26)) (A1.below hb0) (B1.below hb0)).mono ?_
  generalize (w.alloc (.cells #[.int .i64 i, .slice p1 n1 c1, .slice p2 n2 c2, .slice p3 n3 c3] 26)).alloc (.cells #[.int .i64 i, .slice q1 n1 e1, .slice q2 n2 e2, .slice q3 n3 e3] 26) = X at *
  rintro e w1 ⟨rfl, hb1⟩
  have s0 := Below.at hb1 (by omega) r0
  have s1 := Below.at hb1 (by omega) r1
  have b1 := hb0.trans (hb1.mono hb0.size)
  have z1 := hb1.size
  have k02 : w1.cell? ⟨w.heap.size, 2, none⟩ = some (.slice p2 n2 c2) := cell_of_row _ _ _ _ _ _ s0
  have k12 : w1.cell? ⟨w.heap.size + 1, 2, none⟩ = some (.slice q2 n2 e2) := cell_of_row _ _ _ _ _ _ s1
  clear r0 r1 hb0 hb1
  cases a1 with
  | false =>
    go_wp2_with fail
    go_ret
    exact ⟨rfl, b1⟩
  | true =>
    go_wp2_with fail
    refine (unhide S2 w1 (A2.below b1) (B2.below b1)).mono ?_
    rintro e w2 ⟨rfl, hb2⟩
    have t0 := Below.at hb2 (by omega) s0
    have t1 := Below.at hb2 (by omega) s1
    have b2 := b1.trans (hb2.mono b1.size)
    have k03 : w2.cell? ⟨w.heap.size, 3, none⟩ = some (.slice p3 n3 c3) := cell_of_row _ _ _ _ _ _ t0
    have k13 : w2.cell? ⟨w.heap.size + 1, 3, none⟩ = some (.slice q3 n3 e3) := cell_of_row _ _ _ _ _ _ t1
    clear s0 s1 hb2 k02 k12 t0 t1
    cases a2 with
    | false =>
      go_wp2_with fail
      go_ret
      exact ⟨rfl, b2⟩
    | true =>
      go_wp2_with fail
      refine (unhide S3 w2 (A3.below b2) (B3.below b2)).mono ?_
      rintro e w3 ⟨rfl, hb3⟩
      clear k03 k13
      go_wp2
      go_ret
      exact ⟨by cases a3 <;> rfl, b2.trans (hb3.mono b2.size)⟩
end Go.Proofs.YtonmccmeljeopaaDoor

namespace Go.Proofs.YtonmccmeljeopaaDoor
open Go Go.RowKit
set_option linter.unusedSimpArgs false
set_option linter.unusedVariables false

end Go.Proofs.YtonmccmeljeopaaDoor

namespace Go.Proofs.YtonmccmeljeopaaDoor
open Go Go.RowKit
set_option linter.unusedSimpArgs false
set_option linter.unusedVariables false

set_option maxHeartbeats 1000000 in
set_option maxRecDepth 100000 in
theorem rroot6Q_calls (seed : List UInt8) (h : seed.length = 32) (n : Int) (ds : List (List UInt8)) (hds : ds.length = 16) (h32 : ∀ d ∈ ds, d.length = 32) (p : Option Addr) (c : Nat) (L : Nat) (S : Nat → Prop) (I : List (List UInt8)) (hI : I.length ≤ 1000000000000) (w : World) (hL : RLogAt w L S I) (ol : Out p S) (hD : DL w p ds) :
    Calls Tryd.prog 8 #[.agg (sgc seed n (.slice p 16 c)), .pointer (some ⟨L, 0, none⟩)] w fun e w' => e = .returned (.agg (bc (kRoot ds))) ∧ QS L S I 15 (KNoted ds 4 0) w w' := by
  obtain ⟨q0, q1⟩ := al2 w (.cells (sgc seed n (.slice p 16 c)) 33) (.cells (bc (List.replicate 32 0)) 23)
  have hb := bel2 w (.cells (sgc seed n (.slice p 16 c)) 33) (.cells (bc (List.replicate 32 0)) 23)
  have sX : ((w.alloc (.cells (sgc seed n (.slice p 16 c)) 33)).alloc (.cells (bc (List.replicate 32 0)) 23)).heap.size = w.heap.size + 1 + 1 := by simp
  have hRl := kRoot_length ds hds
  have hi := digInfo _ hRl
  have hz := zeroSize _ hRl
  have ho := bc_oneCell (kRoot ds)
  have cn := hide fun W hL ol hD => rnode6Q_calls ds hds h32 p c L 4 (by decide) 0 (by decide) S I (by omega) W hL ol hD
  have eR : (kLev ds 4).getD 0 [] = kRoot ds := rfl
  rw [eR] at cn
  have e15 : 2 ^ 4 - 1 = 15 := rfl
  rw [e15] at cn
  have c33 : ((w.alloc (.cells (sgc seed n (.slice p 16 c)) 33)).alloc (.cells (bc (List.replicate 32 0)) 23)).cell? ⟨w.heap.size, 33, none⟩ = some (.slice p 16 c) := by rw [cell_of_row _ _ _ _ _ _ q0]; exact sgc_leaves seed h n _
  have HOLD := hide hL.old
  obtain ⟨C, hC⟩ : ∃ C, sgc seed n (.slice p 16 c) = C := ⟨_, rfl⟩
  rw [hC] at q0 q1 hb sX c33
  rw [hC]
  obtain ⟨KN, hKN⟩ : ∃ K, KNoted ds 4 0 = K := ⟨_, rfl⟩
  rw [hKN] at cn ⊢
  generalize kRoot ds = R at *
  obtain ⟨X, hX⟩ : ∃ X, (w.alloc (.cells C 33)).alloc (.cells (bc (List.replicate 32 0)) 23) = X := ⟨_, rfl⟩
  rw [hX] at q0 q1 hb sX c33
  have HX := hide hX
  have SX := hide sX
  have LX := hide (hL.below hb)
  have DX := hide (hD.below hb (Nat.le_refl _))
  have HB := hide hb
  have N1 : Hid (¬ S (w.heap.size + 1)) := hide fun h => by have := hL.old _ h; omega
  have Q1 := hide q1
  clear hX hD hL hds h32 hRl eR e15 hC hKN q0 q1 hb sX
  go_enter Tryd.func8, Tryd.ntmps8
  go_upto_region 1 with fail
  change Code.wp _ _ _ _ ((w.alloc (.cells C 33)).alloc (.cells (bc (List.replicate 32 0)) 23))
  rw [unhide HX]
  go_wp2_with fail
  refine (unhide cn _ (unhide LX) ol (unhide DX)).mono ?_
  rintro e w2 ⟨rfl, S2, I2, L2, B2, M2, mo2, nt2, le2⟩
  have p1 := (B2.block _ (Array.getElem?_eq_some_iff.1 (unhide Q1)).1 (unhide N1)).trans (unhide Q1)
  have N2 : ¬ S2 (w.heap.size + 1) := fun h => (M2 _ h).elim (unhide N1) (fun h2 => by have := unhide SX; omega)
  have P1 := hide p1
  have L3 := hide (L2.kept (w' := w2.setRow (w.heap.size + 1) (bc R)) (fun k hk => setRow_other _ _ _ _ (fun e => N2 (by rw [← e]; exact hk))) (by rw [setRow_size]; exact Nat.le_refl _))
  have R2 := hide ((RBut.of_below (S := S) (unhide HB)).trans B2 (fun k h => .inl h))
  have HM2 := hide M2
  have Hmo2 := hide mo2
  have Hnt2 := hide nt2
  have Hle2 := hide le2
  clear p1 N2 L2 B2 M2 mo2 nt2 le2
  go_wp2_with (refine wpList_store_row rfl 23 (.tmp 4) (.tmp 13) rfl (w.heap.size + 1) (bc R) rfl rfl 23 _ (unhide P1) hi hz ho ?_)
  refine bodyPost_ret (results_cell_row rfl _ _ (w.heap.size + 1) _ _ _ _ rfl (setRow_heap _ _ _ _ _ _ (unhide P1)) Tryd.underlying23 rfl hi) rfl ⟨rfl, S2, I2, unhide L3, ?_, fun k h => (unhide HM2 k h).imp_right (fun h2 => by have := unhide SX; omega), unhide Hmo2, unhide Hnt2, unhide Hle2⟩
  have r := unhide R2
  exact ⟨r.os, r.tape, r.output, by rw [setRow_size]; exact r.size, fun k hk hn => (setRow_other _ _ _ _ (by omega)).trans (r.block k hk hn)⟩
end Go.Proofs.YtonmccmeljeopaaDoor

namespace Go.Proofs.YtonmccmeljeopaaDoor
open Go Go.RowKit
set_option linter.unusedSimpArgs false
set_option linter.unusedVariables false

set_option maxHeartbeats 4000000 in
set_option maxRecDepth 100000 in
theorem verify_at (seed d : List UInt8) (hs : seed.length = 32) (hd : d.length = 32) (e : List UInt8) (he : e.length = 32) (ds : List (List UInt8)) (hds : ds.length = 16) (h32 : ∀ d ∈ ds, d.length = 32) (x : Nat) (hx : x < 16) (B : Nat) (cs : Array Value) (w : World) (hS : SigAt w B seed d ds x cs) (tabs : Tabs w) :
    Calls Tryd.prog 9 #[.pointer none, .agg (bc (kRoot ds)), .agg (bc e), .agg cs] w fun en w' => en = .returned (.bool (decide (kClimb (pWordOf (pOpen e (pParts seed x d 32) (pOthers seed x d 32) 32)) x (kPath ds x) 4 = kRoot ds))) ∧ Below w.heap.size w w' := by
  obtain ⟨g, gp, _, _, rfl, s1, s2, s3⟩ := hS.ex
  have hRl := kRoot_length ds hds
  have hiR := digInfo _ hRl
  have hid := digInfo e he
  have hk := hide fun W => isKey_calls (x : Int) W
  have hkk : (if (0 : Int) ≤ (x : Int) then decide ((x : Int) < 16) else false) = true := by rw [if_pos (by omega)]; simp; omega
  rw [hkk] at hk
  have hPl := pParts_length seed x d 32
  have hOl := pOthers_length seed x d 32
  have co := hide fun W h1 h2 b1 b2 t => opened_calls e he (pParts seed x d 32) (pOthers seed x d 32) hPl hOl g 0 32 (g + 1) 0 32 W h1 h2 b1 b2 t
  have hWl : (pWordOf (pOpen e (pParts seed x d 32) (pOthers seed x d 32) 32)).length = 32 := pOf_length _ _
  have hiW := digInfo _ hWl
  have hzW := zeroSize _ hWl
  have cc := hide fun W hD t => kclimb_calls (pWordOf (pOpen e (pParts seed x d 32) (pOthers seed x d 32) 32)) hWl x (by omega) (kPath ds x) (some ⟨gp, 0, none⟩) 4 (by rw [kPath_length]; omega) W hD t
  rw [kPath_length] at cc
  have hTl := kClimb_length (pWordOf (pOpen e (pParts seed x d 32) (pOthers seed x d 32) 32)) x (kPath ds x) hWl 4
  have heq := hide fun W => dig_eq (kClimb (pWordOf (pOpen e (pParts seed x d 32) (pOthers seed x d 32) 32)) x (kPath ds x) 4) (kRoot ds) hTl hRl W
  have hpd := hide fun (W : World) hg => path_dl (w := W) hds h32 x hx gp 23 hg
  clear hS
  obtain ⟨ans, hans⟩ : ∃ ans, decide (kClimb (pWordOf (pOpen e (pParts seed x d 32) (pOthers seed x d 32) 32)) x (kPath ds x) 4 = kRoot ds) = ans := ⟨_, rfl⟩
  rw [hans] at heq ⊢
  generalize kClimb (pWordOf (pOpen e (pParts seed x d 32) (pOthers seed x d 32) 32)) x (kPath ds x) 4 = TD at *
  generalize kRoot ds = R at *
  generalize pWordOf (pOpen e (pParts seed x d 32) (pOthers seed x d 32) 32) = WD at *
  obtain ⟨q0, q1, q2⟩ := al3 w (.cells (bc R) 23) (.cells (bc e) 23) (.cells #[.int .i64 (x : Int), .slice (some ⟨g, 0, none⟩) 32 32, .slice (some ⟨g + 1, 0, none⟩) 32 32, .slice (some ⟨gp, 0, none⟩) 4 4] 26)
  have hb := bel3 w (.cells (bc R) 23) (.cells (bc e) 23) (.cells #[.int .i64 (x : Int), .slice (some ⟨g, 0, none⟩) 32 32, .slice (some ⟨g + 1, 0, none⟩) 32 32, .slice (some ⟨gp, 0, none⟩) 4 4] 26)
  have u1 := hide (Below.at hb (Array.getElem?_eq_some_iff.1 s1).1 s1)
  have u2 := hide (Below.at hb (Array.getElem?_eq_some_iff.1 s2).1 s2)
  have u3 := hide (Below.at hb (Array.getElem?_eq_some_iff.1 s3).1 s3)
  have HT := hide (tabs.below hb (Nat.le_refl _))
  clear hkk hRl hTl hans s1 s2 s3 tabs hPl hOl h32 hds
  obtain ⟨X, hX⟩ : ∃ X, ((w.alloc (.cells (bc R) 23)).alloc (.cells (bc e) 23)).alloc (.cells #[.int .i64 (x : Int), .slice (some ⟨g, 0, none⟩) 32 32, .slice (some ⟨g + 1, 0, none⟩) 32 32, .slice (some ⟨gp, 0, none⟩) 4 4] 26) = X := ⟨_, rfl⟩
  rw [hX] at q0 q1 q2 hb u1 u2 u3 HT
  have HX := hide hX
  have zX := (Array.getElem?_eq_some_iff.1 q2).1
  have c0 : X.cell? ⟨w.heap.size + 1 + 1, 0, none⟩ = some (.int .i64 (x : Int)) := cell_of_row _ _ _ _ _ _ q2
  have c1 : X.cell? ⟨w.heap.size + 1 + 1, 1, none⟩ = some (.slice (some ⟨g, 0, none⟩) 32 32) := cell_of_row _ _ _ _ _ _ q2
  have c2 : X.cell? ⟨w.heap.size + 1 + 1, 2, none⟩ = some (.slice (some ⟨g + 1, 0, none⟩) 32 32) := cell_of_row _ _ _ _ _ _ q2
  have c3 : X.cell? ⟨w.heap.size + 1 + 1, 3, none⟩ = some (.slice (some ⟨gp, 0, none⟩) 4 4) := cell_of_row _ _ _ _ _ _ q2
  clear hX
  go_enter Tryd.func9, Tryd.ntmps9
  go_wp2_with (rw [unhide HX])
  refine (unhide hk _).mono ?_
  rintro en w1 ⟨rfl, h1⟩
  rw [h1]
  clear h1
  go_wp2_with (refine wpList_load_row rfl 23 (.tmp 6) rfl (w.heap.size + 1) rfl 23 _ (0, 0) _ q1 Tryd.underlying23 rfl hid ?_)
  refine (unhide co _ (Array.getElem?_eq_some_iff.1 (unhide u1)).1 (Array.getElem?_eq_some_iff.1 (unhide u2)).1 (bytes_of_row (unhide u1)) (bytes_of_row (unhide u2)) (unhide HT)).mono ?_
  rintro en w2 ⟨rfl, b2⟩
  have z2 := b2.size
  have bW2 : Below w.heap.size w w2 := hb.trans (b2.mono hb.size)
  go_wp2_with (refine wpList_store_new rfl 23 (.tmp 9) (.tmp 29) rfl w2 _ _ WD rfl rfl hiW hzW ?_; intro w3 q9 b3 z3)
  have b13 : Below X.heap.size X w3 := b2.trans (b3.mono z2)
  have bW3 : Below w.heap.size w w3 := bW2.trans (b3.mono bW2.size)
  have p0 := Below.at b13 (Array.getElem?_eq_some_iff.1 q0).1 q0
  have p2 := Below.at b13 zX q2
  have p3 := Below.at b13 (Array.getElem?_eq_some_iff.1 (unhide u3)).1 (unhide u3)
  have t3 := (unhide HT).below b13 (Nat.le_refl _)
  have zp2 := (Array.getElem?_eq_some_iff.1 p2).1
  obtain ⟨K, hK⟩ : ∃ K, w2.heap.size = K := ⟨_, rfl⟩
  rw [hK] at q9
  rw [hK]
  have R0 : Hid (∀ w', (∃ p : Regrown, w' = Sort.grow (redrawn w3 p.d) p.os) → w'.heap[w.heap.size]? = some (.cells (bc R) 23 (0, 0))) := fun w' ⟨p, hp⟩ => by rw [hp]; exact Below.at (below_regrown w3 p.d p.os) (Array.getElem?_eq_some_iff.1 p0).1 p0
  have R9 : Hid (∀ w', (∃ p : Regrown, w' = Sort.grow (redrawn w3 p.d) p.os) → w'.heap[K]? = some (.cells (bc WD) 23 (0, 0))) := fun w' ⟨p, hp⟩ => by rw [hp]; exact Below.at (below_regrown w3 p.d p.os) (Array.getElem?_eq_some_iff.1 q9).1 q9
  have d0 : ∀ d os, (Sort.grow (redrawn w3 d) os).cell? ⟨w.heap.size + 1 + 1, 0, none⟩ = some (.int .i64 (x : Int)) := fun d os => by
    rw [(below_regrown w3 d os).cell (p := ⟨w.heap.size + 1 + 1, 0, none⟩) zp2]; exact cell_of_row _ _ _ _ _ _ p2
  have d3 : ∀ d os, (Sort.grow (redrawn w3 d) os).cell? ⟨w.heap.size + 1 + 1, 3, none⟩ = some (.slice (some ⟨gp, 0, none⟩) 4 4) := fun d os => by
    rw [(below_regrown w3 d os).cell (p := ⟨w.heap.size + 1 + 1, 3, none⟩) zp2]; exact cell_of_row _ _ _ _ _ _ p2
  have kC := hide fun d os => Calls.regrown_of (w := w3) (d := d) (os := os) (unhide cc _ (unhide hpd _ (Below.at (below_regrown w3 d os) (Array.getElem?_eq_some_iff.1 p3).1 p3)) (t3.below (below_regrown w3 d os) (Nat.le_refl _)))
  clear c0 c1 c2 c3 q0 q1 q2 q9 p0 p2 p3 t3 b2 b3 b13 z2 z3 hK zp2 zX bW2
  go_wp2_with fail
  refine wp_region_below mixed (by kernel_rfl) ?_
  quiet_step (fail)
  quiet_step (fail)
  quiet_step (fail)
  refine wpQuiet_load_row rfl 23 (.tmp 9) rfl K rfl 23 _ (0, 0) _ (unhide R9) Tryd.underlying23 rfl hiW ?_
  quiet_step (fail)
  quiet_step (fail)
  quiet_step (fail)
  quiet_step (fail)
  quiet_step (exact unhide kC _ _)
  refine wpQuiet_load_row rfl 23 (.tmp 5) rfl w.heap.size rfl 23 _ (0, 0) _ (unhide R0) Tryd.underlying23 rfl hiR ?_
  refine wpQuiet_eql rfl 23 23 (.tmp 39) (.tmp 40) rfl _ _ rfl rfl (by kernel_rfl) ans (unhide heq) ?_
  quiet_step (fail)
  repeat (quiet_step (fail))
  refine wpQuiet_nil ?_
  intro w4 b4
  go_wp2
  go_ret
  exact ⟨rfl, bW3.trans (b4.mono bW3.size)⟩
end Go.Proofs.YtonmccmeljeopaaDoor

namespace Go.Proofs.YtonmccmeljeopaaDoor
open Go Go.RowKit
set_option linter.unusedSimpArgs false
set_option linter.unusedVariables false

end Go.Proofs.YtonmccmeljeopaaDoor

namespace Go.Proofs.YtonmccmeljeopaaDoor
open Go Go.RowKit
set_option linter.unusedSimpArgs false
set_option linter.unusedVariables false

/-- Where a walk stands: what was there before the log reads as it did; the log; how long it is. -/
structure WSt (w1 : World) (L : Nat) (W : World) (S : Nat → Prop) (I : List (List UInt8)) (C : Nat) : Prop where
  bw : Below w1.heap.size w1 W
  log : RLogAt W L S I
  lo : ∀ k, S k → w1.heap.size ≤ k
  len : I.length ≤ C
theorem WSt.below {w1 W W' : World} {L : Nat} {S : Nat → Prop} {I : List (List UInt8)} {C : Nat} (h : WSt w1 L W S I C) (hb : Below W.heap.size W W') : WSt w1 L W' S I C := ⟨h.bw.trans (hb.mono h.bw.size), h.log.below hb, h.lo, h.len⟩
theorem WSt.step {w1 W W' : World} {L : Nat} {S S' : Nat → Prop} {I I' : List (List UInt8)} {C c : Nat} (h : WSt w1 L W S I C) (hL : RLogAt W' L S' I') (hB : RBut S W W') (hM : ∀ k, S' k → S k ∨ W.heap.size ≤ k) (hle : I'.length ≤ I.length + c) : WSt w1 L W' S' I' (C + c) :=
  ⟨h.bw.trans (hB.to_below w1.heap.size h.lo h.bw.size), hL, fun k hk => (hM k hk).elim (h.lo k) (fun h2 => Nat.le_trans h.bw.size h2), by have := h.len; omega⟩
theorem WSt.other {w1 W W' : World} {L : Nat} {S : Nat → Prop} {I : List (List UInt8)} {C G : Nat} (h : WSt w1 L W S I C) (hG : w1.heap.size ≤ G) (hn : ¬ S G) (hk : ∀ k, k ≠ G → W'.heap[k]? = W.heap[k]?) (hs : W'.heap.size = W.heap.size) (hb : ∀ B, B ≤ G → Below B W W') : WSt w1 L W' S I C :=
  ⟨h.bw.trans (hb _ hG), h.log.kept (fun k hS => hk k (fun e => hn (by rw [← e]; exact hS))) (by rw [hs]; exact Nat.le_refl _), h.lo, h.len⟩
/-- A row that is no part of the log. -/
def Kept (W : World) (S : Nat → Prop) (g : Nat) (o : Obj) : Prop := W.heap[g]? = some o ∧ ¬ S g
theorem Kept.lt {W : World} {S : Nat → Prop} {g : Nat} {o : Obj} (h : Kept W S g o) : g < W.heap.size := (Array.getElem?_eq_some_iff.1 h.1).1
theorem Kept.below {W W' : World} {S : Nat → Prop} {g : Nat} {o : Obj} (h : Kept W S g o) (hb : Below W.heap.size W W') : Kept W' S g o := ⟨Below.at hb h.lt h.1, h.2⟩
theorem Kept.step {W W' : World} {S S' : Nat → Prop} {g : Nat} {o : Obj} (h : Kept W S g o) (hB : RBut S W W') (hM : ∀ k, S' k → S k ∨ W.heap.size ≤ k) : Kept W' S' g o :=
  ⟨(hB.block g h.lt h.2).trans h.1, fun hs => (hM _ hs).elim h.2 (fun h2 => by have := h.lt; omega)⟩
theorem Kept.other {W W' : World} {S : Nat → Prop} {g G : Nat} {o : Obj} (h : Kept W S g o) (hk : ∀ k, k ≠ G → W'.heap[k]? = W.heap[k]?) (hne : g ≠ G) : Kept W' S g o := ⟨(hk g hne).trans h.1, h.2⟩
theorem Kept.new {W W' : World} {L : Nat} {S : Nat → Prop} {I : List (List UInt8)} {o : Obj} {g : Nat} (hL : RLogAt W L S I) (hg : W.heap.size ≤ g) (h : W'.heap[g]? = some o) : Kept W' S g o := ⟨h, fun hs => by have := hL.old _ hs; omega⟩
/-- A signature beside a log. -/
def SigK (W : World) (S : Nat → Prop) (seed d : List UInt8) (ds : List (List UInt8)) (x : Nat) (cs : Array Value) : Prop :=
  ∃ g gp : Nat, cs = #[.int .i64 (x : Int), .slice (some ⟨g, 0, none⟩) 32 32, .slice (some ⟨g + 1, 0, none⟩) 32 32, .slice (some ⟨gp, 0, none⟩) 4 4] ∧
    Kept W S g (.cells (bc (pParts seed x d 32)) 23 (0, 0)) ∧ Kept W S (g + 1) (.cells (bc (pOthers seed x d 32)) 23 (0, 0)) ∧ Kept W S gp (.cells (bc (pathB ds x 4)) 23 (0, 0))
theorem SigK.below {W W' : World} {S : Nat → Prop} {seed d : List UInt8} {ds : List (List UInt8)} {x : Nat} {cs : Array Value} (h : SigK W S seed d ds x cs) (hb : Below W.heap.size W W') : SigK W' S seed d ds x cs := by
  obtain ⟨g, gp, h1, h2, h3, h4⟩ := h
  exact ⟨g, gp, h1, h2.below hb, h3.below hb, h4.below hb⟩
theorem SigK.step {W W' : World} {S S' : Nat → Prop} {seed d : List UInt8} {ds : List (List UInt8)} {x : Nat} {cs : Array Value} (h : SigK W S seed d ds x cs) (hB : RBut S W W') (hM : ∀ k, S' k → S k ∨ W.heap.size ≤ k) : SigK W' S' seed d ds x cs := by
  obtain ⟨g, gp, h1, h2, h3, h4⟩ := h
  exact ⟨g, gp, h1, h2.step hB hM, h3.step hB hM, h4.step hB hM⟩
theorem SigK.other {W W' : World} {S : Nat → Prop} {G : Nat} {seed d : List UInt8} {ds : List (List UInt8)} {x : Nat} {cs : Array Value} (h : SigK W S seed d ds x cs) (hk : ∀ k, k ≠ G → W'.heap[k]? = W.heap[k]?) (C : Array Value) (t : TypeId) (ht : t ≠ 23) (hG : W.heap[G]? = some (.cells C t (0, 0))) : SigK W' S seed d ds x cs := by
  obtain ⟨g, gp, h1, h2, h3, h4⟩ := h
  have ne : ∀ {k : Nat} {D : Array Value}, W.heap[k]? = some (.cells D 23 (0, 0)) → k ≠ G := fun hk' e => by
    rw [e, hG] at hk'
    simp only [Option.some.injEq, Obj.cells.injEq] at hk'
    exact ht hk'.2.1
  exact ⟨g, gp, h1, h2.other hk (ne h2.1), h3.other hk (ne h3.1), h4.other hk (ne h4.1)⟩
theorem SigK.of {W : World} {S : Nat → Prop} {B : Nat} {seed d : List UInt8} {ds : List (List UInt8)} {x : Nat} {cs : Array Value} (h : SigAt W B seed d ds x cs) (hB : ∀ k, S k → k < B) : SigK W S seed d ds x cs := by
  obtain ⟨g, gp, h1, h2, h3, h4, h5, h6⟩ := h.ex
  exact ⟨g, gp, h3, ⟨h4, fun hs => by have := hB _ hs; omega⟩, ⟨h5, fun hs => by have := hB _ hs; omega⟩, ⟨h6, fun hs => by have := hB _ hs; omega⟩⟩
theorem SigK.sig {W : World} {S : Nat → Prop} {seed d : List UInt8} {ds : List (List UInt8)} {x : Nat} {cs : Array Value} (h : SigK W S seed d ds x cs) : SigAt W 0 seed d ds x cs := by
  obtain ⟨g, gp, h1, h2, h3, h4⟩ := h
  exact ⟨g, gp, Nat.zero_le _, Nat.zero_le _, h1, h2.1, h3.1, h4.1⟩
/-- Whether an update with the signature of another one is right: the program's answer, and the document's. -/
def uOk (seed : List UInt8) (d e : List UInt8) : Bool := decide (kClimb (pWordOf (pOpen e (pParts seed 0 d 32) (pOthers seed 0 d 32) 32)) 0 (kPath (pLeaves seed) 0) 4 = kRoot (pLeaves seed))
end Go.Proofs.YtonmccmeljeopaaDoor
