/-
  THE LAYER's awake, OF UPDATES: what a signer signs is right under its root; an empty update is not.
-/
/-
  THE LAYER's awake, OF UPDATES.
-/
/-
  A WHOLE ROW LOADED WHERE A GUARD LETS IT. Over whatever program.
-/
import Derived.Test.YtdkaphebdkdfhaaDoorJ9
import Derived.Test.YtdkaphebdkdfhaaDoorJ0
namespace Go.Proofs.YtdkaphebdkdfhaaDoor
open Go Go.RowKit
set_option linter.unusedSimpArgs false
set_option linter.unusedVariables false

theorem leaf_word (seed : List UInt8) (x : Nat) (hx : x < 16) : (pLeaves seed).getD x [] = pWord seed x := by simp [pLeaves, hx]
/-- What a signer signs is right under its root. -/
theorem right_signed (seed : List UInt8) (hs : seed.length = 32) (x : Nat) (hx : x < 16) (home : Nat) (hh : home < 4294967296) (a b : List UInt8) (ha : a.length = 32) (hb : b.length = 32) (B : Nat) (cs : Array Value) (w : World) (hS : SigAt w B seed (pClaim home a b) (pLeaves seed) x cs) (tabs : Tabs w) :
    Calls Tryd.prog 17 #[.pointer none, .agg (bc (kRoot (pLeaves seed))), .agg (updc home a b cs)] w fun e w' => e = .returned (.bool true) ∧ Below w.heap.size w w' :=
  uright_of _ (kRoot_length _ (pLeaves_len seed)) home hh a b ha hb cs hS.size.1 true w tabs fun W hW =>
    verify_true seed (pClaim home a b) hs (pOf_length _ _) (pLeaves seed) (pLeaves_len seed) (pLeaves_32 seed) x hx (leaf_word seed x hx) B cs W (hS.below hW) (tabs.below hW (Nat.le_refl _))
theorem right_empty (root : List UInt8) (hr : root.length = 32) (w : World) (tabs : Tabs w) :
    Calls Tryd.prog 17 #[.pointer none, .agg (bc root), .agg updZ] w fun e w' => e = .returned (.bool false) ∧ Below w.heap.size w w' :=
  uright_of root hr 0 (by decide) _ _ (by simp) (by simp) sigZ rfl false w tabs fun W _ => verify_empty _ _ W
end Go.Proofs.YtdkaphebdkdfhaaDoor

namespace Go.Proofs.YtdkaphebdkdfhaaDoor
open Go Go.RowKit
set_option linter.unusedSimpArgs false
set_option linter.unusedVariables false

set_option maxHeartbeats 8000000 in
set_option maxRecDepth 100000 in
theorem uawake_of (S1 A2 A3 : List UInt8) (h1 : S1.length = 32) (h2 : A2.length = 32) (h3 : A3.length = 32) (hb1 : Tryd.prog.built 23 [(0, .int .u8 1)] = some (bc S1)) (hb2 : Tryd.prog.built 23 [(0, .int .u8 2)] = some (bc A2)) (hb3 : Tryd.prog.built 23 [(0, .int .u8 3)] = some (bc A3)) (w : World) (tabs : Tabs w) :
    Calls Tryd.prog 15 #[] w fun e w' => e = .returned (.bool true) ∧ Below w.heap.size w w' := by
  have e0 : ((0 : Nat) : Int) = 0 := rfl
  have e1 : ((1 : Nat) : Int) = 1 := rfl
  have cn := hide fun W t => new_calls S1 h1 W t
  have cu0 := fun b off c W hD t => usign_calls S1 h1 0 (by decide) (pLeaves S1) (pLeaves_len S1) b off c 1 (by decide) A2 A3 h2 h3 W hD t
  rw [e0, e1] at cu0
  have cu := hide cu0
  have cr := hide fun p c W hD t => kroot_calls S1 h1 0 (pLeaves S1) (pLeaves_len S1) p c W hD t
  have cs1 := hide fun B cs W hS t => right_signed S1 h1 0 (by decide) 1 (by decide) A2 A3 h2 h3 B cs W hS t
  have ce := hide fun W t => right_empty (kRoot (pLeaves S1)) (kRoot_length _ (pLeaves_len S1)) W t
  have hDl := hide (pLeaves_len S1)
  have hsi := hide fun n v => sgc_info S1 h1 n v
  have hso := hide fun n p l c => sgc_one S1 n p l c
  have hsz := hide fun n v => sg0_size S1 h1 n v
  have HB1 := hide hb1
  have HB2 := hide hb2
  have HB3 := hide hb3
  have H2 := hide h2
  have H3 := hide h3
  have HT := hide tabs
  generalize kRoot (pLeaves S1) = RT at *
  generalize pLeaves S1 = LV at *
  clear cu0 e0 e1 hb1 hb2 hb3 tabs h2 h3
  go_enter Tryd.func15, Tryd.ntmps15
  go_wp2_with (refine wpList_build_to rfl 23 #[(0, .const (.int .u8 1))] rfl (bc S1) (unhide HB1) ?_)
  refine (unhide cn _ (unhide HT)).mono ?_
  rintro e w1 ⟨rfl, hD1, b1⟩
  obtain ⟨G0, hG0⟩ : ∃ G, w.heap.size + 1 + 1 = G := ⟨_, rfl⟩
  rw [hG0] at hD1
  rw [hG0]
  have i1 := unhide hsi 0 (.slice (some ⟨G0, 0, none⟩) 16 16)
  have o1 := unhide hso 0 (some ⟨G0, 0, none⟩) 16 16
  have z1 := unhide hsz 0 (.slice (some ⟨G0, 0, none⟩) 16 16)
  obtain ⟨C1, hC1⟩ : ∃ C, sgc S1 0 (.slice (some ⟨G0, 0, none⟩) 16 16) = C := ⟨_, rfl⟩
  have cu1 := unhide cu G0 0 16
  have cr1 := unhide cr (some ⟨G0, 0, none⟩) 16
  rw [hC1] at i1 o1 z1 cu1 cr1
  rw [hC1]
  have CU := hide cu1
  have CR := hide cr1
  clear hG0 hC1 cu1 cr1
  go_wp2_with (first
    | (refine wpList_store_newV rfl 31 (.tmp 1) (.tmp 6) rfl w1 sg0 _ C1 rfl rfl i1 z1 o1 ?_; intro w2 q2 b2 zz2)
    | (refine wpList_load_row rfl 31 (.tmp 1) rfl w1.heap.size rfl 31 C1 (0, 0) _ q2 Tryd.underlying31 rfl i1 ?_)
    | (refine wpList_build_to rfl 23 #[(0, .const (.int .u8 2))] rfl (bc A2) (unhide HB2) ?_)
    | (refine wpList_build_to rfl 23 #[(0, .const (.int .u8 3))] rfl (bc A3) (unhide HB3) ?_))
  have bW2 : Below w.heap.size w w2 := b1.trans (b2.mono b1.size)
  have hD2 := hD1.below b2 (Nat.le_refl _)
  refine (unhide CU _ hD2 ((unhide HT).below bW2 (Nat.le_refl _))).mono ?_
  rintro e w3 ⟨⟨gc, cap, cs, rfl, hgc, hDc, hSc⟩, b3⟩
  have bW3 : Below w.heap.size w w3 := bW2.trans (b3.mono bW2.size)
  have q3 := Below.at b3 (Array.getElem?_eq_some_iff.1 q2).1 q2
  have zq3 := (Array.getElem?_eq_some_iff.1 q3).1
  have hD3 := hD2.below b3 (Nat.le_refl _)
  have hcz := hSc.size
  have huz := updc_size 1 A2 A3 (unhide H2) (unhide H3) cs hcz.1
  have hui : (Tryd.prog.info? 45).map (·.size) = some (updc 1 A2 A3 cs).size := by rw [huz]; kernel_rfl
  have huq : updZ.size = (updc 1 A2 A3 cs).size := by rw [huz]; exact updc_size 0 _ _ (by simp) (by simp) _ rfl
  have huo := updc_one 1 A2 A3 cs hcz.2
  have i2 := unhide hsi (0 + 1) (.slice (some ⟨gc, 0, none⟩) 16 cap)
  have o2 := unhide hso (0 + 1) (some ⟨gc, 0, none⟩) 16 cap
  have z2 := unhide hsz (0 + 1) (.slice (some ⟨gc, 0, none⟩) 16 cap)
  obtain ⟨C2, hC2⟩ : ∃ C, sgc S1 (0 + 1) (.slice (some ⟨gc, 0, none⟩) 16 cap) = C := ⟨_, rfl⟩
  have ks := unhide cs1 w2.heap.size cs
  obtain ⟨UC, hUC⟩ : ∃ U, updc 1 A2 A3 cs = U := ⟨_, rfl⟩
  rw [hC2] at i2 o2 z2
  rw [hUC] at hui huq huo ks
  rw [hC2, hUC]
  have KS := hide ks
  have HS3 := hide hSc
  obtain ⟨a0, a1⟩ := al2 w3 (.cells sg0 31) (.cells updZ 45)
  have s1 := (setRow_other ((w3.alloc (.cells sg0 31)).alloc (.cells updZ 45)) w3.heap.size (w3.heap.size + 1) C2 (by omega)).trans a1
  have s2 := setRow_heap _ _ _ UC _ _ s1
  have bX : Below w3.heap.size w3 ((((w3.alloc (.cells sg0 31)).alloc (.cells updZ 45)).setRow w3.heap.size C2).setRow (w3.heap.size + 1) UC) := below_setRow (below_setRow (bel2 w3 _ _) (Nat.le_refl _) _) (by omega) _
  clear hcz huz hUC hC2 ks hSc b3 b2 bW2 hD1 hD2 q2 hDc hgc
  go_upto_region 3 with (first
    | (refine wpList_store_row rfl 31 (.tmp 2) (.tmp 12) rfl w3.heap.size C2 rfl rfl 31 _ a0 i2 z2 o2 ?_)
    | (refine wpList_store_row rfl 45 (.tmp 3) (.tmp 13) rfl (w3.heap.size + 1) UC rfl rfl 45 _ s1 hui huq huo ?_))
  obtain ⟨X, hX⟩ : ∃ X, (((w3.alloc (.cells sg0 31)).alloc (.cells updZ 45)).setRow w3.heap.size C2).setRow (w3.heap.size + 1) UC = X := ⟨_, rfl⟩
  change Code.wp _ _ _ _ ((((w3.alloc (.cells sg0 31)).alloc (.cells updZ 45)).setRow w3.heap.size C2).setRow (w3.heap.size + 1) UC)
  rw [hX] at s2 bX
  rw [hX]
  have bWX : Below w.heap.size w X := bW3.trans (bX.mono bW3.size)
  have qX := Below.at bX zq3 q3
  have hDX := hD3.below bX (Nat.le_refl _)
  have hSX := (unhide HS3).below bX
  have tX := (unhide HT).below bWX (Nat.le_refl _)
  obtain ⟨G1, hG1⟩ : ∃ G, w1.heap.size = G := ⟨_, rfl⟩
  obtain ⟨G3, hG3⟩ : ∃ G, w3.heap.size + 1 = G := ⟨_, rfl⟩
  rw [hG1] at qX
  rw [hG3] at s2
  rw [hG1, hG3]
  have R1 : Hid (∀ w', (∃ p : Regrown, w' = Sort.grow (redrawn X p.d) p.os) → w'.heap[G1]? = some (.cells C1 31 (0, 0))) := fun w' ⟨p, hp⟩ => by rw [hp]; exact Below.at (below_regrown X p.d p.os) (Array.getElem?_eq_some_iff.1 qX).1 qX
  have R3 : Hid (∀ w', (∃ p : Regrown, w' = Sort.grow (redrawn X p.d) p.os) → w'.heap[G3]? = some (.cells UC 45 (0, 0))) := fun w' ⟨p, hp⟩ => by rw [hp]; exact Below.at (below_regrown X p.d p.os) (Array.getElem?_eq_some_iff.1 s2).1 s2
  have kR := hide fun d os => Calls.regrown_of (w := X) (d := d) (os := os) (unhide CR _ (hDX.below (below_regrown X d os) (Nat.le_refl _)) (tX.below (below_regrown X d os) (Nat.le_refl _)))
  have kS := hide fun d os => Calls.regrown_of (w := X) (d := d) (os := os) (unhide KS _ (hSX.below (below_regrown X d os)) (tX.below (below_regrown X d os) (Nat.le_refl _)))
  have kE := hide fun d os => Calls.regrown_of (w := X) (d := d) (os := os) (unhide ce _ (tX.below (below_regrown X d os) (Nat.le_refl _)))
  clear hX s1 s2 a0 a1 bX qX hDX hSX tX hG1 hG3 zq3 q3 hD3 bW3 cn cu cr cs1 ce CU CR KS
  refine wp_region_below mixed (by kernel_rfl) ?_
  quiet_step (fail)
  quiet_step (fail)
  quiet_step (fail)
  refine wpQuiet_load_row rfl 31 (.tmp 1) rfl G1 rfl 31 C1 (0, 0) _ (unhide R1) Tryd.underlying31 rfl i1 ?_
  quiet_step (exact unhide kR _ _)
  refine wpQuiet_load_row rfl 45 (.tmp 3) rfl G3 rfl 45 UC (0, 0) _ (unhide R3) Tryd.underlying45 rfl hui ?_
  quiet_step (exact unhide kS _ _)
  quiet_step (fail)
  quiet_step (fail)
  refine wpQuiet_load_row rfl 31 (.tmp 1) rfl G1 rfl 31 C1 (0, 0) _ (unhide R1) Tryd.underlying31 rfl i1 ?_
  quiet_step (exact unhide kR _ _)
  quiet_step (fail)
  quiet_step (exact unhide kE _ _)
  repeat (quiet_step (fail))
  refine wpQuiet_nil ?_
  intro w5 b5
  go_wp2
  go_ret
  exact ⟨rfl, bWX.trans (b5.mono bWX.size)⟩
theorem uawake_calls (w : World) (tabs : Tabs w) : Calls Tryd.prog 15 #[] w fun e w' => e = .returned (.bool true) ∧ Below w.heap.size w w' :=
  uawake_of (1 :: List.replicate 31 0) (2 :: List.replicate 31 0) (3 :: List.replicate 31 0) (by simp) (by simp) (by simp) (by kernel_rfl) (by kernel_rfl) (by kernel_rfl) w tabs
end Go.Proofs.YtdkaphebdkdfhaaDoor

namespace Go.Proofs.YtdkaphebdkdfhaaDoor
open Go Go.RowKit

theorem wpList_load_row_gd {P : Program} {ops : Array Oper} {rest : List Oper} {o : Oper} {a : Act} {w : World} {Q : Exit → Act → World → Prop} (hw : Region.wanted o (yielded ops a.tmps) = true) (ty : TypeId) (x : Operand) (ho : o.op = .load ty x)
    (g : Nat) (hx : a.eval x = .pointer (some ⟨g, 0, none⟩)) (t : TypeId) (cs : Array Value) (fr : Nat × Nat) (d : TypeDesc) (hg : w.heap[g]? = some (.cells cs t fr))
    (hu : P.underlying ty = some d) (hd : (match d with | .struct _ | .array _ _ => true | _ => false) = true) (hi : (P.info? ty).map (·.size) = some cs.size)
    (h : wpList P ops Q rest (a.put o.dst (.agg cs)) w) : wpList P ops Q (o :: rest) a w :=
  wpList_step fun K hK => by
    rw [if_pos hw]
    exact wp_load_row ty x ho g hx t cs fr d hg hu hd hi (hK _ _ h)
end Go.Proofs.YtdkaphebdkdfhaaDoor
