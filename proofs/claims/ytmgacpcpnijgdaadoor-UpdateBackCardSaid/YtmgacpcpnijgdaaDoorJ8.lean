/-
  A SIGNATURE OF A KEY IS VERIFIED WHEREVER ITS LISTS LIE.
-/
/-
  WHAT WAS SIGNED IS RIGHT WHEREVER ITS LISTS LIE; A ROW STORED, THE WORLD BEHIND IT A LETTER.
-/
/-
  WHAT IS READ AS AN UPDATE, AS A STOP, IS WRITTEN SO.
-/
/-
  THE LAYER's awake, OF UPDATES.
-/
/-
  UpdateBack: what is signed is right under the signer's root and comes through its bytes; what is read is written so.
-/
import Derived.Test.YtmgacpcpnijgdaaDoorJ4
import Derived.Test.YtmgacpcpnijgdaaDoorJ6
import Derived.Test.YtmgacpcpnijgdaaDoorJ7
namespace Go.Proofs.YtmgacpcpnijgdaaDoor
open Go Go.RowKit
set_option linter.unusedSimpArgs false
set_option linter.unusedVariables false

set_option maxHeartbeats 4000000 in
set_option maxRecDepth 100000 in
theorem verify_new (seed d : List UInt8) (hs : seed.length = 32) (hd : d.length = 32) (ds : List (List UInt8)) (hds : ds.length = 16) (h32 : ∀ d ∈ ds, d.length = 32) (x : Nat) (hx : x < 16) (hw : ds.getD x [] = pWord seed x) (g g2 gp : Nat) (w : World) (s1 : w.heap[g]? = some (.cells (bc (pParts seed x d 32)) 23 (0, 0))) (s2 : w.heap[g2]? = some (.cells (bc (pOthers seed x d 32)) 23 (0, 0))) (s3 : w.heap[gp]? = some (.cells (bc (pathB ds x 4)) 23 (0, 0))) (tabs : Tabs w) :
    Calls Tryd.prog 32 #[.pointer none, .agg (bc (kRoot ds)), .agg (bc d), .agg #[.int .i64 (x : Int), .slice (some ⟨g, 0, none⟩) 32 32, .slice (some ⟨g2, 0, none⟩) 32 32, .slice (some ⟨gp, 0, none⟩) 4 4]] w fun e w' => e = .returned (.bool true) ∧ Below w.heap.size w w' := by
  have hRl := kRoot_length ds hds
  have hiR := digInfo _ hRl
  have hid := digInfo d hd
  have hk := hide fun W => isKey_calls (x : Int) W
  have hkk : (if (0 : Int) ≤ (x : Int) then decide ((x : Int) < 16) else false) = true := by rw [if_pos (by omega)]; simp; omega
  rw [hkk] at hk
  have hPl := pParts_length seed x d 32
  have hOl := pOthers_length seed x d 32
  have co := hide fun W h1 h2 b1 b2 t => opened_calls d hd (pParts seed x d 32) (pOthers seed x d 32) hPl hOl g 0 32 g2 0 32 W h1 h2 b1 b2 t
  rw [open_word] at co
  have hWl := pWord_length seed x
  have hiW := digInfo _ hWl
  have hzW := zeroSize _ hWl
  have cc := hide fun W hD t => kclimb_calls (pWord seed x) hWl x (by omega) (kPath ds x) (some ⟨gp, 0, none⟩) 4 (by rw [kPath_length]; omega) W hD t
  rw [kPath_length, ← hw, kClimb_root ds hds x hx, hw] at cc
  have heq := hide fun W => dig_self (kRoot ds) hRl W
  have hpd := hide fun (W : World) hg => path_dl (w := W) hds h32 x hx gp 23 hg
  clear hw
  generalize kRoot ds = R at *
  generalize pWord seed x = WD at *
  obtain ⟨q0, q1, q2⟩ := al3 w (.cells (bc R) 23) (.cells (bc d) 23) (.cells #[.int .i64 (x : Int), .slice (some ⟨g, 0, none⟩) 32 32, .slice (some ⟨g2, 0, none⟩) 32 32, .slice (some ⟨gp, 0, none⟩) 4 4] 33)
  have hb := bel3 w (.cells (bc R) 23) (.cells (bc d) 23) (.cells #[.int .i64 (x : Int), .slice (some ⟨g, 0, none⟩) 32 32, .slice (some ⟨g2, 0, none⟩) 32 32, .slice (some ⟨gp, 0, none⟩) 4 4] 33)
  have u1 := hide (Below.at hb (Array.getElem?_eq_some_iff.1 s1).1 s1)
  have u2 := hide (Below.at hb (Array.getElem?_eq_some_iff.1 s2).1 s2)
  have u3 := hide (Below.at hb (Array.getElem?_eq_some_iff.1 s3).1 s3)
  have HT := hide (tabs.below hb (Nat.le_refl _))
  clear hkk hRl s1 s2 s3 tabs hPl hOl h32 hds
  obtain ⟨X, hX⟩ : ∃ X, ((w.alloc (.cells (bc R) 23)).alloc (.cells (bc d) 23)).alloc (.cells #[.int .i64 (x : Int), .slice (some ⟨g, 0, none⟩) 32 32, .slice (some ⟨g2, 0, none⟩) 32 32, .slice (some ⟨gp, 0, none⟩) 4 4] 33) = X := ⟨_, rfl⟩
  rw [hX] at q0 q1 q2 hb u1 u2 u3 HT
  have HX := hide hX
  have zX := (Array.getElem?_eq_some_iff.1 q2).1
  have c0 : X.cell? ⟨w.heap.size + 1 + 1, 0, none⟩ = some (.int .i64 (x : Int)) := cell_of_row _ _ _ _ _ _ q2
  have c1 : X.cell? ⟨w.heap.size + 1 + 1, 1, none⟩ = some (.slice (some ⟨g, 0, none⟩) 32 32) := cell_of_row _ _ _ _ _ _ q2
  have c2 : X.cell? ⟨w.heap.size + 1 + 1, 2, none⟩ = some (.slice (some ⟨g2, 0, none⟩) 32 32) := cell_of_row _ _ _ _ _ _ q2
  have c3 : X.cell? ⟨w.heap.size + 1 + 1, 3, none⟩ = some (.slice (some ⟨gp, 0, none⟩) 4 4) := cell_of_row _ _ _ _ _ _ q2
  clear hX
  go_enter Tryd.func32, Tryd.ntmps32
  go_wp2_with (rw [unhide HX])
  refine (unhide hk _).mono ?_
  rintro e w1 ⟨rfl, h1⟩
  rw [h1]
  clear h1
  go_wp2_with (refine wpList_load_row rfl 23 (.tmp 6) rfl (w.heap.size + 1) rfl 23 _ (0, 0) _ q1 Tryd.underlying23 rfl hid ?_)
  refine (unhide co _ (Array.getElem?_eq_some_iff.1 (unhide u1)).1 (Array.getElem?_eq_some_iff.1 (unhide u2)).1 (bytes_of_row (unhide u1)) (bytes_of_row (unhide u2)) (unhide HT)).mono ?_
  rintro e w2 ⟨rfl, b2⟩
  have z2 := b2.size
  have bW2 : Below w.heap.size w w2 := hb.trans (b2.mono hb.size)
  go_wp2_with (refine wpList_store_new rfl 23 (.tmp 9) (.tmp 29) rfl w2 _ _ WD rfl rfl hiW hzW ?_; intro w3 q9 b3 z3)
  have b13 : Below X.heap.size X w3 := b2.trans (b3.mono z2)
  have bW3 : Below w.heap.size w w3 := bW2.trans (b3.mono bW2.size)
  have p0 := Below.at b13 (Array.getElem?_eq_some_iff.1 q0).1 q0
  have p2 := Below.at b13 zX q2
  have p3 := Below.at b13 (Array.getElem?_eq_some_iff.1 (unhide u3)).1 (unhide u3)
  have t3 := (unhide HT).below b13 (Nat.le_refl _)
  have zp2 := (Array.getElem?_eq_some_iff.1 p2).1
  obtain ⟨K, hK⟩ : ∃ K, w2.heap.size = K := ⟨_, rfl⟩
  rw [hK] at q9
  rw [hK]
  have R0 : Hid (∀ w', (∃ p : Regrown, w' = Sort.grow (redrawn w3 p.d) p.os) → w'.heap[w.heap.size]? = some (.cells (bc R) 23 (0, 0))) := fun w' ⟨p, hp⟩ => by rw [hp]; exact Below.at (below_regrown w3 p.d p.os) (Array.getElem?_eq_some_iff.1 p0).1 p0
  have R9 : Hid (∀ w', (∃ p : Regrown, w' = Sort.grow (redrawn w3 p.d) p.os) → w'.heap[K]? = some (.cells (bc WD) 23 (0, 0))) := fun w' ⟨p, hp⟩ => by rw [hp]; exact Below.at (below_regrown w3 p.d p.os) (Array.getElem?_eq_some_iff.1 q9).1 q9
  have d0 : ∀ d os, (Sort.grow (redrawn w3 d) os).cell? ⟨w.heap.size + 1 + 1, 0, none⟩ = some (.int .i64 (x : Int)) := fun d os => by
    rw [(below_regrown w3 d os).cell (p := ⟨w.heap.size + 1 + 1, 0, none⟩) zp2]; exact cell_of_row _ _ _ _ _ _ p2
  have d3 : ∀ d os, (Sort.grow (redrawn w3 d) os).cell? ⟨w.heap.size + 1 + 1, 3, none⟩ = some (.slice (some ⟨gp, 0, none⟩) 4 4) := fun d os => by
    rw [(below_regrown w3 d os).cell (p := ⟨w.heap.size + 1 + 1, 3, none⟩) zp2]; exact cell_of_row _ _ _ _ _ _ p2
  have kC := hide fun d os => Calls.regrown_of (w := w3) (d := d) (os := os) (unhide cc _ (unhide hpd _ (Below.at (below_regrown w3 d os) (Array.getElem?_eq_some_iff.1 p3).1 p3)) (t3.below (below_regrown w3 d os) (Nat.le_refl _)))
  clear c0 c1 c2 c3 q0 q1 q2 q9 p0 p2 p3 t3 b2 b3 b13 z2 z3 hK zp2 zX bW2
  go_wp2_with fail
  refine wp_region_below mixed (by kernel_rfl) ?_
  quiet_step (fail)
  quiet_step (fail)
  quiet_step (fail)
  refine wpQuiet_load_row rfl 23 (.tmp 9) rfl K rfl 23 _ (0, 0) _ (unhide R9) Tryd.underlying23 rfl hiW ?_
  quiet_step (fail)
  quiet_step (fail)
  quiet_step (fail)
  quiet_step (fail)
  quiet_step (exact unhide kC _ _)
  refine wpQuiet_load_row rfl 23 (.tmp 5) rfl w.heap.size rfl 23 _ (0, 0) _ (unhide R0) Tryd.underlying23 rfl hiR ?_
  refine wpQuiet_eql rfl 23 23 (.tmp 39) (.tmp 40) rfl _ _ rfl rfl (by kernel_rfl) true (unhide heq) ?_
  quiet_step (fail)
  repeat (quiet_step (fail))
  refine wpQuiet_nil ?_
  intro w4 b4
  go_wp2
  go_ret
  exact ⟨rfl, bW3.trans (b4.mono bW3.size)⟩
end Go.Proofs.YtmgacpcpnijgdaaDoor

namespace Go.Proofs.YtmgacpcpnijgdaaDoor
open Go Go.RowKit
set_option linter.unusedSimpArgs false
set_option linter.unusedVariables false

/-- A key's signature, its lists in blocks from B on. -/
structure SigL (w : World) (B : Nat) (seed d : List UInt8) (x : Nat) (cs : Array Value) : Prop where
  ex : ∃ v1 v2 v3, cs = #[.int .i64 (x : Int), v1, v2, v3] ∧ NewD B w v1 (pParts seed x d 32) ∧ NewD B w v2 (pOthers seed x d 32) ∧ NewD B w v3 (pathB (pLeaves seed) x 4)
theorem SigAt.l {w : World} {B : Nat} {seed d : List UInt8} {x : Nat} {cs : Array Value} (hx : x < 16) (h : SigAt w B seed d (pLeaves seed) x cs) : SigL w B seed d x cs := by
  obtain ⟨g, gp, h1, h2, e, h4, h5, h6⟩ := h.ex
  refine ⟨_, _, _, e, ⟨g, 32, rfl, ?_, h1, h4⟩, ⟨g + 1, 32, rfl, ?_, by omega, h5⟩, ⟨gp, 4, rfl, ?_, h2, h6⟩⟩
  · exact pParts_length seed x d 32
  · exact pOthers_length seed x d 32
  · exact pathB_length _ (pLeaves_len seed) (pLeaves_32 seed) x hx 4 (Nat.le_refl _)
theorem SigL.keep {w w' : World} {B C : Nat} {seed d : List UInt8} {x : Nat} {cs : Array Value} (h : SigL w B seed d x cs) (hk : ∀ k, B ≤ k → k < w.heap.size → w'.heap[k]? = w.heap[k]?) (hC : C ≤ B) : SigL w' C seed d x cs := by
  obtain ⟨v1, v2, v3, e, d1, d2, d3⟩ := h.ex
  exact ⟨v1, v2, v3, e, d1.keep hk hC, d2.keep hk hC, d3.keep hk hC⟩
theorem SigL.below {w w' : World} {B : Nat} {seed d : List UInt8} {x : Nat} {cs : Array Value} (h : SigL w B seed d x cs) (hb : Below w.heap.size w w') : SigL w' B seed d x cs :=
  h.keep (fun k _ hk => hb.block k hk) (Nat.le_refl _)
theorem SigL.size {w : World} {B : Nat} {seed d : List UInt8} {x : Nat} {cs : Array Value} (h : SigL w B seed d x cs) : cs.size = 4 := by
  obtain ⟨v1, v2, v3, rfl, _⟩ := h.ex
  rfl
theorem SigL.one {w : World} {B : Nat} {seed d : List UInt8} {x : Nat} {cs : Array Value} (h : SigL w B seed d x cs) : cs.all (·.oneCell') = true := by
  obtain ⟨v1, v2, v3, rfl, d1, d2, d3⟩ := h.ex
  simp [d1.one, d2.one, d3.one, show ∀ n : Int, (Value.int .i64 n).oneCell' = true from fun _ => rfl]
theorem SigL.shape {w : World} {B : Nat} {seed d : List UInt8} {x : Nat} {cs : Array Value} (hx : x < 16) (h : SigL w B seed d x cs) : ∃ g1 g2 gp : Nat, cs = #[.int .i64 (x : Int), .slice (some ⟨g1, 0, none⟩) 32 32, .slice (some ⟨g2, 0, none⟩) 32 32, .slice (some ⟨gp, 0, none⟩) 4 4] ∧
    w.heap[g1]? = some (.cells (bc (pParts seed x d 32)) 23 (0, 0)) ∧ w.heap[g2]? = some (.cells (bc (pOthers seed x d 32)) 23 (0, 0)) ∧ w.heap[gp]? = some (.cells (bc (pathB (pLeaves seed) x 4)) 23 (0, 0)) := by
  obtain ⟨v1, v2, v3, rfl, ⟨b1, k1, rfl, l1, _, r1⟩, ⟨b2, k2, rfl, l2, _, r2⟩, ⟨b3, k3, rfl, l3, _, r3⟩⟩ := h.ex
  rw [pParts_length] at l1
  rw [pOthers_length] at l2
  rw [pathB_length _ (pLeaves_len seed) (pLeaves_32 seed) x hx 4 (Nat.le_refl _)] at l3
  obtain rfl : k1 = 32 := by omega
  obtain rfl : k2 = 32 := by omega
  obtain rfl : k3 = 4 := by omega
  exact ⟨b1, b2, b3, rfl, r1, r2, r3⟩
theorem right_l (seed : List UInt8) (hs : seed.length = 32) (x : Nat) (hx : x < 16) (home : Nat) (hh : home < 4294967296) (a b : List UInt8) (ha : a.length = 32) (hb : b.length = 32) (B : Nat) (cs : Array Value) (w : World) (hS : SigL w B seed (pClaim home a b) x cs) (tabs : Tabs w) :
    Calls Tryd.prog 15 #[.pointer none, .agg (bc (kRoot (pLeaves seed))), .agg (updc home a b cs)] w fun e w' => e = .returned (.bool true) ∧ Below w.heap.size w w' := by
  obtain ⟨g1, g2, gp, rfl, r1, r2, r3⟩ := hS.shape hx
  exact uright_of _ (kRoot_length _ (pLeaves_len seed)) home hh a b ha hb _ rfl true w tabs fun W hW =>
    verify_new seed (pClaim home a b) hs (pOf_length _ _) (pLeaves seed) (pLeaves_len seed) (pLeaves_32 seed) x hx (leaf_word seed x hx) g1 g2 gp W (Below.at hW (Array.getElem?_eq_some_iff.1 r1).1 r1) (Below.at hW (Array.getElem?_eq_some_iff.1 r2).1 r2) (Below.at hW (Array.getElem?_eq_some_iff.1 r3).1 r3) (tabs.below hW (Nat.le_refl _))
theorem halts_l (seed : List UInt8) (hs : seed.length = 32) (x : Nat) (hx : x < 16) (home : Nat) (hh : home < 4294967296) (a : List UInt8) (ha : a.length = 32) (y : Int) (B : Nat) (cs : Array Value) (w : World) (hS : SigL w B seed (pHalt home a y) x cs) (tabs : Tabs w) :
    Calls Tryd.prog 16 #[.pointer none, .agg (bc (kRoot (pLeaves seed))), .agg (stopc home a y cs)] w fun e w' => e = .returned (.bool true) ∧ Below w.heap.size w w' := by
  obtain ⟨g1, g2, gp, rfl, r1, r2, r3⟩ := hS.shape hx
  exact uhalts_of _ (kRoot_length _ (pLeaves_len seed)) home hh a ha y _ rfl true w tabs fun W hW =>
    verify_new seed (pHalt home a y) hs (pOf_length _ _) (pLeaves seed) (pLeaves_len seed) (pLeaves_32 seed) x hx (leaf_word seed x hx) g1 g2 gp W (Below.at hW (Array.getElem?_eq_some_iff.1 r1).1 r1) (Below.at hW (Array.getElem?_eq_some_iff.1 r2).1 r2) (Below.at hW (Array.getElem?_eq_some_iff.1 r3).1 r3) (tabs.below hW (Nat.le_refl _))
/-- What is read of an update's bytes that were signed. -/
theorem upd_lens (seed d : List UInt8) (x : Nat) (hx : x < 16) : (pParts seed x d 32).length = 32 * 32 ∧ (pOthers seed x d 32).length = 32 * 32 ∧ (pathB (pLeaves seed) x 4).length = 32 * 4 :=
  ⟨pParts_length seed x d 32, pOthers_length seed x d 32, pathB_length _ (pLeaves_len seed) (pLeaves_32 seed) x hx 4 (Nat.le_refl _)⟩
/-- A row stored, the world behind it a letter. -/
theorem wpList_store_rowV {P : Program} {ops : Array Oper} {rest : List Oper} {op : Oper} {a : Act} {w : World} {Q : Exit → Act → World → Prop} (hgd : op.guard = none) (ty : TypeId) (x y : Operand) (ho : op.op = .store ty x y)
    (g : Nat) (D : Array Value) (hx : a.eval x = .pointer (some ⟨g, 0, none⟩)) (hy : a.eval y = .agg D) (t : TypeId) (Z : Array Value) (hg : w.heap[g]? = some (.cells Z t (0, 0)))
    (hi : (P.info? ty).map (·.size) = some D.size) (hz : Z.size = D.size) (h1 : D.all (·.oneCell') = true)
    (h : ∀ w', w'.heap[g]? = some (.cells D t (0, 0)) → (∀ k, k ≠ g → w'.heap[k]? = w.heap[k]?) → w'.heap.size = w.heap.size → (∀ B w0, B ≤ g → Below B w0 w → Below B w0 w') → wpList P ops Q rest (a.put op.dst undef) w') :
    wpList P ops Q (op :: rest) a w := by
  refine wpList_store_row hgd ty x y ho g D hx hy t Z hg hi hz h1 ?_
  exact h _ (setRow_heap _ _ _ _ _ _ hg) (fun k hk => setRow_other _ _ _ _ hk) (setRow_size _ _ _) (fun B w0 hB hb => below_setRow hb hB _)
/-- The bytes of a signed update are written. -/
theorem ubytes_l (seed : List UInt8) (x : Nat) (hx : x < 16) (home : Nat) (hh : home < 4294967296) (a b : List UInt8) (ha : a.length = 32) (hb : b.length = 32) (d : List UInt8) (B : Nat) (cs : Array Value) (w : World) (hS : SigL w B seed d x cs) :
    Calls Tryd.prog 10 #[.agg (updc home a b cs)] w fun e w' => e = .returned (.string (str (pUpd home a b (x : Int) (pParts seed x d 32) (pOthers seed x d 32) (pathB (pLeaves seed) x 4)))) ∧ Below w.heap.size w w' := by
  obtain ⟨l1, l2, l3⟩ := upd_lens seed d x hx
  obtain ⟨v1, v2, v3, rfl, d1, d2, d3⟩ := hS.ex
  exact ubytes_calls home hh a b ha hb _ v1 v2 v3 _ _ _ (by omega) (by omega) (by omega) w d1.digs d2.digs d3.digs
theorem sbytes_l (seed : List UInt8) (x : Nat) (hx : x < 16) (home : Nat) (hh : home < 4294967296) (a : List UInt8) (ha : a.length = 32) (y : Int) (d : List UInt8) (B : Nat) (cs : Array Value) (w : World) (hS : SigL w B seed d x cs) :
    Calls Tryd.prog 12 #[.agg (stopc home a y cs)] w fun e w' => e = .returned (.string (str (pStop home a y (x : Int) (pParts seed x d 32) (pOthers seed x d 32) (pathB (pLeaves seed) x 4)))) ∧ Below w.heap.size w w' := by
  obtain ⟨l1, l2, l3⟩ := upd_lens seed d x hx
  obtain ⟨v1, v2, v3, rfl, d1, d2, d3⟩ := hS.ex
  exact sbytes_calls home hh a ha y _ v1 v2 v3 _ _ _ (by omega) (by omega) (by omega) w d1.digs d2.digs d3.digs
/-- They are read as they were. -/
theorem uread_l (seed : List UInt8) (x : Nat) (hx : x < 16) (home : Nat) (hh : home < 4294967296) (a b : List UInt8) (ha : a.length = 32) (hb : b.length = 32) (d : List UInt8) (w : World) :
    Calls Tryd.prog 9 #[.string (str (pUpd home a b (x : Int) (pParts seed x d 32) (pOthers seed x d 32) (pathB (pLeaves seed) x 4)))] w fun e w' => ∃ cs, e = .returned (.tuple #[.agg (updc home a b cs), .int .i64 0]) ∧ SigL w' w.heap.size seed d x cs ∧ Below w.heap.size w w' := by
  obtain ⟨l1, l2, l3⟩ := upd_lens seed d x hx
  have hb' := upd_back home hh a b ha hb x (by omega) _ _ _ 32 32 4 l1 l2 l3 (by omega) (by omega) (by omega)
  refine (uread_calls _ (by simp only [pUpd, List.length_append, pBig_length, pSig_len, ha, hb, l1, l2, l3]; omega) w).mono ?_
  rintro e w' ⟨row, rfl, bel, -, h0⟩
  obtain ⟨v1, v2, v3, e, d1, d2, d3⟩ := unhide h0 hb'.c8
  rw [hb'.c1, hb'.c2, hb'.c3, hb'.c4] at e
  rw [hb'.c5] at d1
  rw [hb'.c6] at d2
  rw [hb'.c7] at d3
  exact ⟨_, by rw [e, hb'.c8], ⟨v1, v2, v3, rfl, d1, d2, d3⟩, bel⟩
theorem sread_l (seed : List UInt8) (x : Nat) (hx : x < 16) (home : Nat) (hh : home < 4294967296) (a : List UInt8) (ha : a.length = 32) (y : Nat) (hy : y ≤ 2147483647) (d : List UInt8) (w : World) :
    Calls Tryd.prog 11 #[.string (str (pStop home a (y : Int) (x : Int) (pParts seed x d 32) (pOthers seed x d 32) (pathB (pLeaves seed) x 4)))] w fun e w' => ∃ cs, e = .returned (.tuple #[.agg (stopc home a (y : Int) cs), .int .i64 0]) ∧ SigL w' w.heap.size seed d x cs ∧ Below w.heap.size w w' := by
  obtain ⟨l1, l2, l3⟩ := upd_lens seed d x hx
  have hb' := stop_back home hh a ha y hy x (by omega) _ _ _ 32 32 4 l1 l2 l3 (by omega) (by omega) (by omega)
  refine (sread_calls _ (by simp only [pStop, List.length_append, pBig_length, pSig_len, ha, l1, l2, l3]; omega) w).mono ?_
  rintro e w' ⟨row, rfl, bel, -, h0⟩
  obtain ⟨v1, v2, v3, e, d1, d2, d3⟩ := unhide h0 hb'.c8
  rw [hb'.c1, hb'.c2, hb'.c3, hb'.c4] at e
  rw [hb'.c5] at d1
  rw [hb'.c6] at d2
  rw [hb'.c7] at d3
  exact ⟨_, by rw [e, hb'.c8], ⟨v1, v2, v3, rfl, d1, d2, d3⟩, bel⟩
theorem sig_l (seed d : List UInt8) (x : Nat) (hx : x < 16) (B C : Nat) (cs ds : Array Value) (w : World) (h1 : SigL w B seed d x cs) (h2 : SigL w C seed d x ds) :
    Calls Tryd.prog 31 #[.agg cs, .agg ds] w fun e w' => e = .returned (.bool true) ∧ Below w.heap.size w w' := by
  obtain ⟨l1, l2, l3⟩ := upd_lens seed d x hx
  obtain ⟨v1, v2, v3, rfl, d1, d2, d3⟩ := h1.ex
  obtain ⟨u1, u2, u3, rfl, e1, e2, e3⟩ := h2.ex
  obtain ⟨_, _, rfl, _⟩ := id d1.ex
  obtain ⟨_, _, rfl, _⟩ := id d2.ex
  obtain ⟨_, _, rfl, _⟩ := id d3.ex
  obtain ⟨_, _, rfl, _⟩ := id e1.ex
  obtain ⟨_, _, rfl, _⟩ := id e2.ex
  obtain ⟨_, _, rfl, _⟩ := id e3.ex
  exact sameSig_calls _ _ _ _ _ _ _ _ _ _ _ _ _ _ _ _ _ _ _ _ _ _ (by omega) (by omega) (by omega) w d1.digs d2.digs d3.digs e1.digs e2.digs e3.digs
end Go.Proofs.YtmgacpcpnijgdaaDoor

namespace Go.Proofs.YtmgacpcpnijgdaaDoor
open Go Go.RowKit
set_option linter.unusedSimpArgs false
set_option linter.unusedVariables false

def uE (l : List UInt8) : Int := (⟨l, 0⟩ : Rd).u3.2.d3.2.end'
def sE (l : List UInt8) : Int := pStopE (⟨l, 0⟩ : Rd)
theorem Rd.take_rest' (r : Rd) (n : Nat) : (r.take n).2.rest.length ≤ r.rest.length := Rd.take_rest _ _
theorem uread_s (l : List UInt8) (hl : l.length ≤ 10000) (w : World) :
    Calls Tryd.prog 9 #[.string (str l)] w fun e w' => ∃ row : Array Value, e = .returned (.tuple #[.agg row, .int .i64 (uE l)]) ∧ Hid (row.size = 69) ∧ row.all (·.oneCell') = true ∧ Below w.heap.size w w' ∧
      Hid (uE l = 0 → ∀ W : World, (∀ k, w.heap.size ≤ k → k < w'.heap.size → W.heap[k]? = w'.heap[k]?) → Calls Tryd.prog 10 #[.agg row] W fun e w'' => e = .returned (.string (str l)) ∧ Below W.heap.size W w'') := by
  refine (uread_calls l (by omega) w).mono ?_
  rintro e w' ⟨row, rfl, bel, h1, h0⟩
  by_cases hE : uE l = 0
  · obtain ⟨v1, v2, v3, er, d1, d2, d3⟩ := unhide h0 hE
    have p2 := (⟨l, 0⟩ : Rd).u2_len
    have p3 := (⟨l, 0⟩ : Rd).u3_len
    have hl' : (⟨l, 0⟩ : Rd).rest.length ≤ 10000 := hl
    have m1 : (⟨l, 0⟩ : Rd).u1.2.rest.length ≤ (⟨l, 0⟩ : Rd).rest.length := Rd.take_rest' _ _
    have m2 : (⟨l, 0⟩ : Rd).u2.2.rest.length ≤ (⟨l, 0⟩ : Rd).u1.2.rest.length := Rd.take_rest' _ _
    have m3 : (⟨l, 0⟩ : Rd).u3.2.rest.length ≤ (⟨l, 0⟩ : Rd).u2.2.rest.length := Rd.take_rest' _ _
    have n0 := (⟨l, 0⟩ : Rd).u3.2.head_rest
    have n1 := (⟨l, 0⟩ : Rd).u3.2.d1_rest
    have n2 := (⟨l, 0⟩ : Rd).u3.2.d2_rest
    have k1 : (⟨l, 0⟩ : Rd).u3.2.d1.1.length ≤ _ := Rd.digests_lt _ _
    have k2 : (⟨l, 0⟩ : Rd).u3.2.d2.1.length ≤ _ := Rd.digests_lt _ _
    have k3 : (⟨l, 0⟩ : Rd).u3.2.d3.1.length ≤ _ := Rd.digests_lt _ _
    have hh : (⟨l, 0⟩ : Rd).u1.1 < 4294967296 := Rd.num_lt _ 4
    refine ⟨row, rfl, ?_, ?_, bel, fun _ W hW => ?_⟩
    · rw [er]; exact updc_size _ _ _ p2 p3 _ rfl
    · rw [er]; exact updc_one _ _ _ _ (by simp [d1.one, d2.one, d3.one, show ∀ n : Int, (Value.int .i64 n).oneCell' = true from fun _ => rfl])
    · rw [er]
      have := ubytes_calls _ hh _ _ p2 p3 (((⟨l, 0⟩ : Rd).u3.2.num 4).1 : Int) v1 v2 v3 _ _ _ (by omega) (by omega) (by omega) W (d1.keep hW (Nat.le_refl _)).digs (d2.keep hW (Nat.le_refl _)).digs (d3.keep hW (Nat.le_refl _)).digs
      rw [upd_read l hE] at this
      exact this
  · refine ⟨row, rfl, ?_, ?_, bel, fun h => absurd h hE⟩
    · rw [unhide h1 hE]; exact (rfl : updO.size = 69)
    · rw [unhide h1 hE]; exact updc_one _ _ _ _ (by simp [sig0, Value.oneCell'])
theorem sread_s (l : List UInt8) (hl : l.length ≤ 10000) (w : World) :
    Calls Tryd.prog 11 #[.string (str l)] w fun e w' => ∃ row : Array Value, e = .returned (.tuple #[.agg row, .int .i64 (sE l)]) ∧ Hid (row.size = 38) ∧ row.all (·.oneCell') = true ∧ Below w.heap.size w w' ∧
      Hid (sE l = 0 → ∀ W : World, (∀ k, w.heap.size ≤ k → k < w'.heap.size → W.heap[k]? = w'.heap[k]?) → Calls Tryd.prog 12 #[.agg row] W fun e w'' => e = .returned (.string (str l)) ∧ Below W.heap.size W w'') := by
  refine (sread_calls l (by omega) w).mono ?_
  rintro e w' ⟨row, rfl, bel, h1, h0⟩
  by_cases hE : sE l = 0
  · obtain ⟨v1, v2, v3, er, d1, d2, d3⟩ := unhide h0 hE
    have p2 := (⟨l, 0⟩ : Rd).u2_len
    have hl' : (⟨l, 0⟩ : Rd).rest.length ≤ 10000 := hl
    have m1 : (⟨l, 0⟩ : Rd).u1.2.rest.length ≤ (⟨l, 0⟩ : Rd).rest.length := Rd.take_rest' _ _
    have m2 : (⟨l, 0⟩ : Rd).u2.2.rest.length ≤ (⟨l, 0⟩ : Rd).u1.2.rest.length := Rd.take_rest' _ _
    have m3 : (⟨l, 0⟩ : Rd).s3.2.rest.length ≤ (⟨l, 0⟩ : Rd).u2.2.rest.length := Rd.take_rest' _ _
    have n0 := (⟨l, 0⟩ : Rd).s3.2.head_rest
    have n1 := (⟨l, 0⟩ : Rd).s3.2.d1_rest
    have n2 := (⟨l, 0⟩ : Rd).s3.2.d2_rest
    have k1 : (⟨l, 0⟩ : Rd).s3.2.d1.1.length ≤ _ := Rd.digests_lt _ _
    have k2 : (⟨l, 0⟩ : Rd).s3.2.d2.1.length ≤ _ := Rd.digests_lt _ _
    have k3 : (⟨l, 0⟩ : Rd).s3.2.d3.1.length ≤ _ := Rd.digests_lt _ _
    have hh : (⟨l, 0⟩ : Rd).u1.1 < 4294967296 := Rd.num_lt _ 4
    refine ⟨row, rfl, ?_, ?_, bel, fun _ W hW => ?_⟩
    · rw [er]; exact stopc_size _ _ p2 _ _ rfl
    · rw [er]; exact stopc_one _ _ _ _ (by simp [d1.one, d2.one, d3.one, show ∀ n : Int, (Value.int .i64 n).oneCell' = true from fun _ => rfl])
    · rw [er]
      have := sbytes_calls _ hh _ p2 ((⟨l, 0⟩ : Rd).s3.1 : Int) (((⟨l, 0⟩ : Rd).s3.2.num 4).1 : Int) v1 v2 v3 _ _ _ (by omega) (by omega) (by omega) W (d1.keep hW (Nat.le_refl _)).digs (d2.keep hW (Nat.le_refl _)).digs (d3.keep hW (Nat.le_refl _)).digs
      rw [stop_read l hE] at this
      exact this
  · refine ⟨row, rfl, ?_, ?_, bel, fun h => absurd h hE⟩
    · rw [unhide h1 hE]; exact (rfl : stopO.size = 38)
    · rw [unhide h1 hE]; exact stopc_one _ _ _ _ (by simp [sig0, Value.oneCell'])
end Go.Proofs.YtmgacpcpnijgdaaDoor

namespace Go.Proofs.YtmgacpcpnijgdaaDoor
open Go Go.RowKit
set_option linter.unusedSimpArgs false
set_option linter.unusedVariables false

set_option maxHeartbeats 8000000 in
set_option maxRecDepth 100000 in
theorem uawake_of (S1 A2 A3 : List UInt8) (h1 : S1.length = 32) (h2 : A2.length = 32) (h3 : A3.length = 32) (hb1 : Tryd.prog.built 23 [(0, .int .u8 1)] = some (bc S1)) (hb2 : Tryd.prog.built 23 [(0, .int .u8 2)] = some (bc A2)) (hb3 : Tryd.prog.built 23 [(0, .int .u8 3)] = some (bc A3)) (w : World) (tabs : Tabs w) :
    Calls Tryd.prog 4 #[] w fun e w' => e = .returned (.bool true) ∧ Below w.heap.size w w' := by
  have e0 : ((0 : Nat) : Int) = 0 := rfl
  have e1 : ((1 : Nat) : Int) = 1 := rfl
  have cn := hide fun W t => new_calls S1 h1 W t
  have cu0 := fun b off c W hD t => usign_calls S1 h1 0 (by decide) (pLeaves S1) (pLeaves_len S1) b off c 1 (by decide) A2 A3 h2 h3 W hD t
  rw [e0, e1] at cu0
  have cu := hide cu0
  have cr := hide fun p c W hD t => kroot_calls S1 h1 0 (pLeaves S1) (pLeaves_len S1) p c W hD t
  have cs1 := hide fun B cs W hS t => right_signed S1 h1 0 (by decide) 1 (by decide) A2 A3 h2 h3 B cs W hS t
  have ce := hide fun W t => right_empty (kRoot (pLeaves S1)) (kRoot_length _ (pLeaves_len S1)) W t
  have hDl := hide (pLeaves_len S1)
  have hsi := hide fun n v => sgc_info S1 h1 n v
  have hso := hide fun n p l c => sgc_one S1 n p l c
  have hsz := hide fun n v => sg0_size S1 h1 n v
  have HB1 := hide hb1
  have HB2 := hide hb2
  have HB3 := hide hb3
  have H2 := hide h2
  have H3 := hide h3
  have HT := hide tabs
  generalize kRoot (pLeaves S1) = RT at *
  generalize pLeaves S1 = LV at *
  clear cu0 e0 e1 hb1 hb2 hb3 tabs h2 h3
  go_enter Tryd.func4, Tryd.ntmps4
  go_wp2_with (refine wpList_build_to rfl 23 #[(0, .const (.int .u8 1))] rfl (bc S1) (unhide HB1) ?_)
  refine (unhide cn _ (unhide HT)).mono ?_
  rintro e w1 ⟨rfl, hD1, b1⟩
  obtain ⟨G0, hG0⟩ : ∃ G, w.heap.size + 1 + 1 = G := ⟨_, rfl⟩
  rw [hG0] at hD1
  rw [hG0]
  have i1 := unhide hsi 0 (.slice (some ⟨G0, 0, none⟩) 16 16)
  have o1 := unhide hso 0 (some ⟨G0, 0, none⟩) 16 16
  have z1 := unhide hsz 0 (.slice (some ⟨G0, 0, none⟩) 16 16)
  obtain ⟨C1, hC1⟩ : ∃ C, sgc S1 0 (.slice (some ⟨G0, 0, none⟩) 16 16) = C := ⟨_, rfl⟩
  have cu1 := unhide cu G0 0 16
  have cr1 := unhide cr (some ⟨G0, 0, none⟩) 16
  rw [hC1] at i1 o1 z1 cu1 cr1
  rw [hC1]
  have CU := hide cu1
  have CR := hide cr1
  clear hG0 hC1 cu1 cr1
  go_wp2_with (first
    | (refine wpList_store_newV rfl 29 (.tmp 1) (.tmp 6) rfl w1 sg0 _ C1 rfl rfl i1 z1 o1 ?_; intro w2 q2 b2 zz2)
    | (refine wpList_load_row rfl 29 (.tmp 1) rfl w1.heap.size rfl 29 C1 (0, 0) _ q2 Tryd.underlying29 rfl i1 ?_)
    | (refine wpList_build_to rfl 23 #[(0, .const (.int .u8 2))] rfl (bc A2) (unhide HB2) ?_)
    | (refine wpList_build_to rfl 23 #[(0, .const (.int .u8 3))] rfl (bc A3) (unhide HB3) ?_))
  have bW2 : Below w.heap.size w w2 := b1.trans (b2.mono b1.size)
  have hD2 := hD1.below b2 (Nat.le_refl _)
  refine (unhide CU _ hD2 ((unhide HT).below bW2 (Nat.le_refl _))).mono ?_
  rintro e w3 ⟨⟨gc, cap, cs, rfl, hgc, hDc, hSc⟩, b3⟩
  have bW3 : Below w.heap.size w w3 := bW2.trans (b3.mono bW2.size)
  have q3 := Below.at b3 (Array.getElem?_eq_some_iff.1 q2).1 q2
  have zq3 := (Array.getElem?_eq_some_iff.1 q3).1
  have hD3 := hD2.below b3 (Nat.le_refl _)
  have hcz := hSc.size
  have huz := updc_size 1 A2 A3 (unhide H2) (unhide H3) cs hcz.1
  have hui : (Tryd.prog.info? 35).map (·.size) = some (updc 1 A2 A3 cs).size := by rw [huz]; kernel_rfl
  have huq : updZ.size = (updc 1 A2 A3 cs).size := by rw [huz]; exact updc_size 0 _ _ (by simp) (by simp) _ rfl
  have huo := updc_one 1 A2 A3 cs hcz.2
  have i2 := unhide hsi (0 + 1) (.slice (some ⟨gc, 0, none⟩) 16 cap)
  have o2 := unhide hso (0 + 1) (some ⟨gc, 0, none⟩) 16 cap
  have z2 := unhide hsz (0 + 1) (.slice (some ⟨gc, 0, none⟩) 16 cap)
  obtain ⟨C2, hC2⟩ : ∃ C, sgc S1 (0 + 1) (.slice (some ⟨gc, 0, none⟩) 16 cap) = C := ⟨_, rfl⟩
  have ks := unhide cs1 w2.heap.size cs
  obtain ⟨UC, hUC⟩ : ∃ U, updc 1 A2 A3 cs = U := ⟨_, rfl⟩
  rw [hC2] at i2 o2 z2
  rw [hUC] at hui huq huo ks
  rw [hC2, hUC]
  have KS := hide ks
  have HS3 := hide hSc
  obtain ⟨a0, a1⟩ := al2 w3 (.cells sg0 29) (.cells updZ 35)
  have s1 := (setRow_other ((w3.alloc (.cells sg0 29)).alloc (.cells updZ 35)) w3.heap.size (w3.heap.size + 1) C2 (by omega)).trans a1
  have s2 := setRow_heap _ _ _ UC _ _ s1
  have bX : Below w3.heap.size w3 ((((w3.alloc (.cells sg0 29)).alloc (.cells updZ 35)).setRow w3.heap.size C2).setRow (w3.heap.size + 1) UC) := below_setRow (below_setRow (bel2 w3 _ _) (Nat.le_refl _) _) (by omega) _
  clear hcz huz hUC hC2 ks hSc b3 b2 bW2 hD1 hD2 q2 hDc hgc
  go_upto_region 3 with (first
    | (refine wpList_store_row rfl 29 (.tmp 2) (.tmp 12) rfl w3.heap.size C2 rfl rfl 29 _ a0 i2 z2 o2 ?_)
    | (refine wpList_store_row rfl 35 (.tmp 3) (.tmp 13) rfl (w3.heap.size + 1) UC rfl rfl 35 _ s1 hui huq huo ?_))
  obtain ⟨X, hX⟩ : ∃ X, (((w3.alloc (.cells sg0 29)).alloc (.cells updZ 35)).setRow w3.heap.size C2).setRow (w3.heap.size + 1) UC = X := ⟨_, rfl⟩
  change Code.wp _ _ _ _ ((((w3.alloc (.cells sg0 29)).alloc (.cells updZ 35)).setRow w3.heap.size C2).setRow (w3.heap.size + 1) UC)
  rw [hX] at s2 bX
  rw [hX]
  have bWX : Below w.heap.size w X := bW3.trans (bX.mono bW3.size)
  have qX := Below.at bX zq3 q3
  have hDX := hD3.below bX (Nat.le_refl _)
  have hSX := (unhide HS3).below bX
  have tX := (unhide HT).below bWX (Nat.le_refl _)
  obtain ⟨G1, hG1⟩ : ∃ G, w1.heap.size = G := ⟨_, rfl⟩
  obtain ⟨G3, hG3⟩ : ∃ G, w3.heap.size + 1 = G := ⟨_, rfl⟩
  rw [hG1] at qX
  rw [hG3] at s2
  rw [hG1, hG3]
  have R1 : Hid (∀ w', (∃ p : Regrown, w' = Sort.grow (redrawn X p.d) p.os) → w'.heap[G1]? = some (.cells C1 29 (0, 0))) := fun w' ⟨p, hp⟩ => by rw [hp]; exact Below.at (below_regrown X p.d p.os) (Array.getElem?_eq_some_iff.1 qX).1 qX
  have R3 : Hid (∀ w', (∃ p : Regrown, w' = Sort.grow (redrawn X p.d) p.os) → w'.heap[G3]? = some (.cells UC 35 (0, 0))) := fun w' ⟨p, hp⟩ => by rw [hp]; exact Below.at (below_regrown X p.d p.os) (Array.getElem?_eq_some_iff.1 s2).1 s2
  have kR := hide fun d os => Calls.regrown_of (w := X) (d := d) (os := os) (unhide CR _ (hDX.below (below_regrown X d os) (Nat.le_refl _)) (tX.below (below_regrown X d os) (Nat.le_refl _)))
  have kS := hide fun d os => Calls.regrown_of (w := X) (d := d) (os := os) (unhide KS _ (hSX.below (below_regrown X d os)) (tX.below (below_regrown X d os) (Nat.le_refl _)))
  have kE := hide fun d os => Calls.regrown_of (w := X) (d := d) (os := os) (unhide ce _ (tX.below (below_regrown X d os) (Nat.le_refl _)))
  clear hX s1 s2 a0 a1 bX qX hDX hSX tX hG1 hG3 zq3 q3 hD3 bW3 cn cu cr cs1 ce CU CR KS
  refine wp_region_below mixed (by kernel_rfl) ?_
  quiet_step (fail)
  quiet_step (fail)
  quiet_step (fail)
  refine wpQuiet_load_row rfl 29 (.tmp 1) rfl G1 rfl 29 C1 (0, 0) _ (unhide R1) Tryd.underlying29 rfl i1 ?_
  quiet_step (exact unhide kR _ _)
  refine wpQuiet_load_row rfl 35 (.tmp 3) rfl G3 rfl 35 UC (0, 0) _ (unhide R3) Tryd.underlying35 rfl hui ?_
  quiet_step (exact unhide kS _ _)
  quiet_step (fail)
  quiet_step (fail)
  refine wpQuiet_load_row rfl 29 (.tmp 1) rfl G1 rfl 29 C1 (0, 0) _ (unhide R1) Tryd.underlying29 rfl i1 ?_
  quiet_step (exact unhide kR _ _)
  quiet_step (fail)
  quiet_step (exact unhide kE _ _)
  repeat (quiet_step (fail))
  refine wpQuiet_nil ?_
  intro w5 b5
  go_wp2
  go_ret
  exact ⟨rfl, bWX.trans (b5.mono bWX.size)⟩
theorem uawake_calls (w : World) (tabs : Tabs w) : Calls Tryd.prog 4 #[] w fun e w' => e = .returned (.bool true) ∧ Below w.heap.size w w' :=
  uawake_of (1 :: List.replicate 31 0) (2 :: List.replicate 31 0) (3 :: List.replicate 31 0) (by simp) (by simp) (by simp) (by kernel_rfl) (by kernel_rfl) (by kernel_rfl) w tabs
end Go.Proofs.YtmgacpcpnijgdaaDoor

namespace Go.Proofs.YtmgacpcpnijgdaaDoor
open Go Go.RowKit
set_option linter.unusedSimpArgs false
set_option linter.unusedVariables false

/-- What lies behind the signing. -/
structure UB (w : World) (seed root : List UInt8) (K14 K15 K18 B : Nat) (UC XC : Array Value) (d0 d1 : List UInt8) (cs ds : Array Value) (W : World) : Prop where
  bel : Below w.heap.size w W
  tabs : Tabs W
  r14 : W.heap[K14]? = some (.cells (bc root) 23 (0, 0))
  r15 : W.heap[K15]? = some (.cells UC 35 (0, 0))
  r18 : W.heap[K18]? = some (.cells XC 40 (0, 0))
  s : SigL W B seed d0 0 cs
  t : SigL W B seed d1 1 ds
theorem UB.below {w : World} {seed root : List UInt8} {K14 K15 K18 B : Nat} {UC XC : Array Value} {d0 d1 : List UInt8} {cs ds : Array Value} {W W' : World} (h : UB w seed root K14 K15 K18 B UC XC d0 d1 cs ds W) (hb : Below W.heap.size W W') : UB w seed root K14 K15 K18 B UC XC d0 d1 cs ds W' :=
  ⟨h.bel.trans (hb.mono h.bel.size), h.tabs.below hb (Nat.le_refl _), Below.at hb (Array.getElem?_eq_some_iff.1 h.r14).1 h.r14, Below.at hb (Array.getElem?_eq_some_iff.1 h.r15).1 h.r15, Below.at hb (Array.getElem?_eq_some_iff.1 h.r18).1 h.r18, h.s.below hb, h.t.below hb⟩
theorem at_below {w w' : World} {g : Nat} {o : Obj} (hb : Below w.heap.size w w') (h : w.heap[g]? = some o) : w'.heap[g]? = some o := Below.at hb (Array.getElem?_eq_some_iff.1 h).1 h
set_option maxHeartbeats 16000000 in
set_option maxRecDepth 100000 in
theorem updateBack_of (seed : List UInt8) (hs : seed.length = 32) (home : Nat) (hh : home < 4294967296) (a b : List UInt8) (ha : a.length = 32) (hb : b.length = 32) (y : Nat) (hy : y < 65536) (s : List UInt8) (w : World) (tabs : Tabs w)
    (hst : ∀ (b0 off c : Nat) (W : World), DL W (some ⟨b0, off, none⟩) (pLeaves seed) → Tabs W → Calls Tryd.prog 8 #[.pointer none, .agg (sgc seed ((1 : Nat) : Int) (.slice (some ⟨b0, off, none⟩) 16 c)), .int .u32 (home : Int), .agg (bc a), .int .i64 (y : Int)] W fun e w' => (∃ gc cap cs, e = .returned (.tuple #[.agg (sgc seed (((1 : Nat) : Int) + 1) (.slice (some ⟨gc, 0, none⟩) 16 cap)), .agg (stopc home a (y : Int) cs), .int .i64 0]) ∧ W.heap.size ≤ gc ∧ DL w' (some ⟨gc, 0, none⟩) (pLeaves seed) ∧ SigAt w' W.heap.size seed (pHalt home a (y : Int)) (pLeaves seed) 1 cs) ∧ Below W.heap.size W w') :
    Calls Tryd.prog 3 #[.agg (bc seed), .int .u32 (home : Int), .agg (bc a), .agg (bc b), .int .u16 (y : Int), .string (str s)] w fun e w' => e = .returned (.bool true) ∧ Below w.heap.size w w' := by
  have e0 : ((0 : Nat) : Int) = 0 := rfl
  have e1 : ((1 : Nat) : Int) = 1 := rfl
  have A := hide fun W t => uawake_calls W t
  obtain ⟨q0, q1, q2⟩ := al3 w (.cells (bc seed) 23) (.cells (bc a) 23) (.cells (bc b) 23)
  have hb0 := bel3 w (.cells (bc seed) 23) (.cells (bc a) 23) (.cells (bc b) 23)
  obtain ⟨X, hX⟩ : ∃ X, ((w.alloc (.cells (bc seed) 23)).alloc (.cells (bc a) 23)).alloc (.cells (bc b) 23) = X := ⟨_, rfl⟩
  rw [hX] at q0 q1 q2 hb0
  have HX := hide hX
  have tX := hide (tabs.below hb0 (Nat.le_refl _))
  clear hX
  by_cases hs5 : s.length ≤ 10000
  case neg =>
    have hd : decide (10000 < (s.length : Int)) = true := by simp; omega
    clear hs5 hy e0 e1 hst
    go_enter Tryd.func3, Tryd.ntmps3
    go_wp2_with (rw [unhide HX])
    refine (unhide A _ (unhide tX)).mono ?_
    rintro e w1 ⟨rfl, b1⟩
    have bW1 := hb0.trans (b1.mono hb0.size)
    go_wp2_with fail
    refine (unhide A _ ((unhide tX).below b1 (Nat.le_refl _))).mono ?_
    rintro e w2 ⟨rfl, b2⟩
    go_wp2_with fail
    go_ret
    exact ⟨rfl, bW1.trans (b2.mono bW1.size)⟩
  have hd : decide (10000 < (s.length : Int)) = false := by simp; omega
  have his := digInfo seed hs
  have hia := digInfo a ha
  have hib := digInfo b hb
  have CN := hide fun W t => new_calls seed hs W t
  have CR := hide fun p c W hD t => kroot_calls seed hs 0 (pLeaves seed) (pLeaves_len seed) p c W hD t
  have si0 := fun b0 off c W hD t => usign_calls seed hs 0 (by decide) (pLeaves seed) (pLeaves_len seed) b0 off c home hh a b ha hb W hD t
  rw [e0] at si0
  have SI := hide si0
  have st0 := hst
  clear hst
  rw [e1] at st0
  have ST := hide st0
  have BY := hide fun B cs W hS => ubytes_l seed 0 (by decide) home hh a b ha hb (pClaim home a b) B cs W hS
  have SB := hide fun B cs W hS => sbytes_l seed 1 (by decide) home hh a ha (y : Int) (pHalt home a (y : Int)) B cs W hS
  have UR := hide fun W => uread_l seed 0 (by decide) home hh a b ha hb (pClaim home a b) W
  have SR := hide fun W => sread_l seed 1 (by decide) home hh a ha y (by omega) (pHalt home a (y : Int)) W
  have US := hide fun B C cs ds W h1 h2 => usame_calls home a b ha hb cs ds (SigL.size h1) (SigL.size h2) W fun W' hW => sig_l seed (pClaim home a b) 0 (by decide) B C cs ds W' (SigL.below h1 hW) (SigL.below h2 hW)
  have SS := hide fun B C cs ds W h1 h2 => ssame_calls home a ha (y : Int) cs ds (SigL.size h1) (SigL.size h2) W fun W' hW => sig_l seed (pHalt home a (y : Int)) 1 (by decide) B C cs ds W' (SigL.below h1 hW) (SigL.below h2 hW)
  have RI := hide fun B cs W hS t => right_l seed hs 0 (by decide) home hh a b ha hb B cs W hS t
  have HA := hide fun B cs W hS t => halts_l seed hs 1 (by decide) home hh a ha (y : Int) B cs W hS t
  have RS := hide fun W => uread_s s hs5 W
  have RT := hide fun W => sread_s s hs5 W
  have hRl := kRoot_length (pLeaves seed) (pLeaves_len seed)
  have hiR := digInfo _ hRl
  have hzR := zeroSize _ hRl
  have hsi := hide fun n v => sgc_info seed hs n v
  have hso := hide fun n p l c => sgc_one seed n p l c
  have hsz := hide fun n v => sg0_size seed hs n v
  have hsz34 := hide fun n v => sgc_size seed hs n v
  have HD := hide fun (cs : Array Value) (h : cs.size = 4) => updc_size home a b ha hb cs h
  have HE := hide fun (cs : Array Value) (h : cs.size = 4) => stopc_size home a ha (y : Int) cs h
  have hLV := hide (pLeaves_len seed)
  generalize kRoot (pLeaves seed) = RO at *
  generalize pUpd home a b _ _ _ _ = PU at *
  generalize pStop home a _ _ _ _ _ = PS at *
  generalize pClaim home a b = D0 at *
  generalize pHalt home a (y : Int) = D1 at *
  have hy' := hide hy
  have HTw := hide tabs
  clear hs5 e0 e1 si0 st0 tabs hRl hs ha hb hy
  go_enter Tryd.func3, Tryd.ntmps3
  go_wp2_with (rw [unhide HX])
  refine (unhide A _ (unhide tX)).mono ?_
  rintro e w1 ⟨rfl, b1⟩
  have p0 := at_below b1 q0
  have p1 := at_below b1 q1
  have p2 := at_below b1 q2
  have bW1 := hb0.trans (b1.mono hb0.size)
  have t1 := (unhide tX).below b1 (Nat.le_refl _)
  clear q0 q1 q2 hb0 b1 tX HX
  go_wp2_with (refine wpList_load_row rfl 23 (.tmp 6) rfl w.heap.size rfl 23 _ (0, 0) _ p0 Tryd.underlying23 rfl his ?_)
  refine (unhide CN _ t1).mono ?_
  rintro e w2 ⟨rfl, hD2, b2⟩
  obtain ⟨G0, hG0⟩ : ∃ G, w1.heap.size + 1 + 1 = G := ⟨_, rfl⟩
  rw [hG0] at hD2
  rw [hG0]
  have i1 := unhide hsi 0 (.slice (some ⟨G0, 0, none⟩) 16 16)
  have o1 := unhide hso 0 (some ⟨G0, 0, none⟩) 16 16
  have z1 := unhide hsz 0 (.slice (some ⟨G0, 0, none⟩) 16 16)
  have y1 := hide (unhide hsz34 0 (.slice (some ⟨G0, 0, none⟩) 16 16))
  have CR1 := unhide CR (some ⟨G0, 0, none⟩) 16
  have SI1 := unhide SI G0 0 16
  obtain ⟨C1, hC1⟩ : ∃ C, sgc seed 0 (.slice (some ⟨G0, 0, none⟩) 16 16) = C := ⟨_, rfl⟩
  rw [hC1] at i1 o1 z1 y1 CR1 SI1
  rw [hC1]
  have CR1 := hide CR1
  have SI1 := hide SI1
  have r1 := at_below b2 p1
  have r2 := at_below b2 p2
  have bW2 := bW1.trans (b2.mono bW1.size)
  have t2 := t1.below b2 (Nat.le_refl _)
  clear hG0 hC1 p0 p1 p2 b2 bW1 t1 CN CR SI
  have z1 := hide z1
  go_wp2_with (first
    | (refine wpList_store_newV rfl 29 (.tmp 13) (.tmp 31) rfl w2 sg0 _ C1 rfl rfl i1 (unhide z1) o1 ?_; intro w3 q3 b3 zz3)
    | (refine wpList_load_row rfl 29 (.tmp 13) rfl w2.heap.size rfl 29 C1 (0, 0) _ q3 Tryd.underlying29 rfl i1 ?_))
  have p1 := at_below b3 r1
  have p2 := at_below b3 r2
  have bW3 := bW2.trans (b3.mono bW2.size)
  have t3 := t2.below b3 (Nat.le_refl _)
  have hD3 := hD2.below b3 (Nat.le_refl _)
  have hK13 : w.heap.size + 1 + 1 < w2.heap.size := (Array.getElem?_eq_some_iff.1 r2).1
  obtain ⟨K13, eK13⟩ : ∃ K, w2.heap.size = K := ⟨_, rfl⟩
  rw [eK13] at q3 hK13
  simp only [eK13]
  clear r1 r2 bW2 t2 hD2 b3 zz3 eK13
  refine (unhide CR1 _ hD3 t3).mono ?_
  rintro e w4 ⟨rfl, b4⟩
  have q4 := at_below b4 q3
  have r1 := at_below b4 p1
  have r2 := at_below b4 p2
  have bW4 := bW3.trans (b4.mono bW3.size)
  have t4 := t3.below b4 (Nat.le_refl _)
  have hD4 := hD3.below b4 (Nat.le_refl _)
  clear p1 p2 bW3 t3 hD3 b4 q3
  have F5 : Hid (∀ Z, Below w4.heap.size w4 Z → Z.heap[K13]? = some (.cells C1 29 (0, 0)) ∧ Z.heap[w.heap.size + 1]? = some (.cells (bc a) 23 (0, 0)) ∧ Z.heap[w.heap.size + 1 + 1]? = some (.cells (bc b) 23 (0, 0))) := fun Z bZ => ⟨at_below bZ q4, at_below bZ r1, at_below bZ r2⟩
  go_wp2_with (first
    | (refine wpList_store_new rfl 23 (.tmp 14) (.tmp 33) rfl w4 _ _ RO rfl rfl hiR hzR ?_; intro w5 q14 b5 z5; obtain ⟨q5, p1, p2⟩ := unhide F5 w5 b5)
    | (refine wpList_load_row rfl 29 (.tmp 13) rfl K13 rfl 29 C1 (0, 0) _ q5 Tryd.underlying29 rfl i1 ?_)
    | (refine wpList_load_row rfl 23 (.tmp 8) rfl (w.heap.size + 1) rfl 23 _ (0, 0) _ p1 Tryd.underlying23 rfl hia ?_)
    | (refine wpList_load_row rfl 23 (.tmp 9) rfl (w.heap.size + 1 + 1) rfl 23 _ (0, 0) _ p2 Tryd.underlying23 rfl hib ?_))
  have bW5 := bW4.trans (b5.mono bW4.size)
  have t5 := t4.below b5 (Nat.le_refl _)
  have hD5 := hD4.below b5 (Nat.le_refl _)
  have lK13 := (Array.getElem?_eq_some_iff.1 q5).1
  obtain ⟨K14, eK14⟩ : ∃ K, w4.heap.size = K := ⟨_, rfl⟩
  rw [eK14] at q14
  simp only [eK14]
  have lK14 := (Array.getElem?_eq_some_iff.1 q14).1
  have l34 := (Array.getElem?_eq_some_iff.1 q4).1
  rw [eK14] at l34
  clear r1 r2 bW4 t4 hD4 b5 q4 F5 eK14 z5
  refine (unhide SI1 _ hD5 t5).mono ?_
  rintro e w6 ⟨⟨gc, cap, cs, rfl, hgc, hDc, hSc⟩, b6⟩
  have q6 := at_below b6 q5
  have r14 := at_below b6 q14
  have r1 := at_below b6 p1
  have bW6 := bW5.trans (b6.mono bW5.size)
  have t6 := t5.below b6 (Nat.le_refl _)
  have lgc := st_lt hLV hDc
  have sz := b6.size
  have csz := hSc.size
  have i2 := unhide hsi (0 + 1) (.slice (some ⟨gc, 0, none⟩) 16 cap)
  have o2 := unhide hso (0 + 1) (some ⟨gc, 0, none⟩) 16 cap
  have y2 := hide (unhide hsz34 (0 + 1) (.slice (some ⟨gc, 0, none⟩) 16 cap))
  have u69 := hide (unhide HD cs csz.1)
  have ui := upd_info _ (unhide HD cs csz.1)
  have uo := updc_one home a b cs csz.2
  have ST1 := unhide ST gc 0 cap
  rw [show (1 : Int) = 0 + 1 from rfl] at ST1
  have hSl := hide (SigAt.l (by decide) hSc)
  obtain ⟨C2, hC2⟩ : ∃ C, sgc seed (0 + 1) (.slice (some ⟨gc, 0, none⟩) 16 cap) = C := ⟨_, rfl⟩
  obtain ⟨UC, hUC⟩ : ∃ U, updc home a b cs = U := ⟨_, rfl⟩
  have BYc := fun B W hS => unhide BY B cs W hS
  have USc := fun B C ds W h1 h2 => unhide US B C cs ds W h1 h2
  rw [hC2] at i2 o2 y2 ST1
  rw [hUC] at u69 ui uo BYc USc
  rw [hC2, hUC]
  have ST1 := hide ST1
  have BYc := hide BYc
  have USc := hide USc
  have l6 := (Array.getElem?_eq_some_iff.1 q6).1
  have n1 : w6.heap.size ≠ K13 := by omega
  have q13a : Hid (∀ o, (w6.alloc o).heap[K13]? = some (.cells C1 29 (0, 0))) := fun o => (Below.heap_alloc w6 o K13 l6).trans q6
  have y12 : Hid (C1.size = C2.size) := (unhide y1).trans (unhide y2).symm
  have u69s : Hid (69 = UC.size) := (unhide u69).symm
  have HF8 : Hid (∀ o w7 w8, w7.heap[K13]? = some (.cells C2 29 (0, 0)) → (∀ k, k ≠ K13 → w7.heap[k]? = (w6.alloc o).heap[k]?) → (∀ B w0, B ≤ K13 → Below B w0 (w6.alloc o) → Below B w0 w7) → (∀ k, k ≠ w6.heap.size → w8.heap[k]? = w7.heap[k]?) → (∀ B w0, B ≤ w6.heap.size → Below B w0 w7 → Below B w0 w8) →
      w8.heap[K13]? = some (.cells C2 29 (0, 0)) ∧ w8.heap[w.heap.size + 1]? = some (.cells (bc a) 23 (0, 0)) ∧ w8.heap[K14]? = some (.cells (bc RO) 23 (0, 0)) ∧ DL w8 (some ⟨gc, 0, none⟩) (pLeaves seed) ∧ Hid (SigL w8 w5.heap.size seed D0 0 cs) ∧ Below w.heap.size w w8 ∧ Tabs w8) := fun o w7 w8 s13 k7 f7 k8 f8 => by
    have hk : ∀ k, k ≠ K13 → k < w6.heap.size → w8.heap[k]? = w6.heap[k]? := fun k h1 h2 => (k8 k (by omega)).trans ((k7 k h1).trans (Below.heap_alloc w6 o k h2))
    have bel : Below w.heap.size w w8 := f8 _ _ bW6.size (f7 _ _ (by omega) (bW6.alloc bW6.size o))
    have l1 := (Array.getElem?_eq_some_iff.1 r1).1
    have l14 := (Array.getElem?_eq_some_iff.1 r14).1
    exact ⟨(k8 K13 (by omega)).trans s13, (hk _ (by omega) l1).trans r1, (hk _ (by omega) l14).trans r14, DL_at hDc (hk gc (by omega) lgc), (unhide hSl).keep (fun k hB hlt => hk k (by omega) hlt) (Nat.le_refl _), bel, (unhide HTw).below bel (Nat.le_refl _)⟩
  clear hC2 hUC hSc hDc b6 q6 r14 r1 q5 q14 p1 p2 t5 t6 hD5 bW5 csz hSl y1 y2 u69 BY US ST SI1 CR1 sz
  have Hn1 := hide n1
  have hyb : y < 65536 := unhide hy'
  clear n1
  go_wp2_with (first
    | (refine wpList_store_rowV rfl 29 (.tmp 13) (.tmp 40) rfl K13 C2 rfl rfl 29 _ (unhide q13a _) i2 (unhide y12) o2 ?_; intro w7 s13 k7 z7 f7; have s15 := (k7 w6.heap.size (unhide Hn1)).trans (al1 w6 _))
    | (refine wpList_store_rowV rfl 35 (.tmp 15) (.tmp 41) rfl w6.heap.size UC rfl rfl 35 _ s15 ui (show _ = UC.size from unhide u69s) uo ?_; intro w8 q15 k8 z8 f8; obtain ⟨q13, p1, r14, hD8, hS8, bW8, t8⟩ := unhide HF8 _ w7 w8 s13 k7 f7 k8 f8; clear k7 z7 f7 k8 z8 f8 s13 s15)
    | (refine wpList_load_row rfl 29 (.tmp 13) rfl K13 rfl 29 C2 (0, 0) _ q13 Tryd.underlying29 rfl i2 ?_)
    | (refine wpList_load_row rfl 23 (.tmp 8) rfl (w.heap.size + 1) rfl 23 _ (0, 0) _ p1 Tryd.underlying23 rfl hia ?_))
  obtain ⟨K15, eK15⟩ : ∃ K, w6.heap.size = K := ⟨_, rfl⟩
  rw [eK15] at q15
  simp only [eK15]
  clear HF8 eK15 q13a Hn1 bW6 lgc hgc l6 hyb
  refine (unhide ST1 _ hD8 t8).mono ?_
  rintro e w9 ⟨⟨gd, cap2, ds, rfl, hgd, hDd, hSd⟩, b9⟩
  have r14' := at_below b9 r14
  have r15 := at_below b9 q15
  have S0 := ((unhide hS8).below b9).keep (C := 0) (fun _ _ _ => rfl) (Nat.zero_le _)
  have S1 := (SigAt.l (by decide) hSd).keep (C := 0) (fun _ _ _ => rfl) (Nat.zero_le _)
  have bW9 := bW8.trans (b9.mono bW8.size)
  have csz := hSd.size
  have i3 := unhide hsi (0 + 1 + (0 + 1)) (.slice (some ⟨gd, 0, none⟩) 16 cap2)
  have o3 := unhide hso (0 + 1 + (0 + 1)) (some ⟨gd, 0, none⟩) 16 cap2
  have y3 : Hid (34 = (sgc seed (0 + 1 + (0 + 1)) (.slice (some ⟨gd, 0, none⟩) 16 cap2)).size) := (unhide hsz34 (0 + 1 + (0 + 1)) (.slice (some ⟨gd, 0, none⟩) 16 cap2)).symm
  have x38 : Hid (38 = (stopc home a (y : Int) ds).size) := (unhide HE ds csz.1).symm
  have xi := stop_info _ (unhide HE ds csz.1)
  have xo := stopc_one home a (y : Int) ds csz.2
  have SBc := fun B W hS => unhide SB B ds W hS
  have SSc := fun B C es W h1 h2 => unhide SS B C ds es W h1 h2
  obtain ⟨C3, hC3⟩ : ∃ C, sgc seed (0 + 1 + (0 + 1)) (.slice (some ⟨gd, 0, none⟩) 16 cap2) = C := ⟨_, rfl⟩
  obtain ⟨XC, hXC⟩ : ∃ U, stopc home a (y : Int) ds = U := ⟨_, rfl⟩
  rw [hC3] at i3 o3 y3
  rw [hXC] at x38 xi xo SBc SSc
  rw [hC3, hXC]
  have SBc := hide SBc
  have SSc := hide SSc
  have HF11 : Hid (∀ o1 o2 w10 w11, (∀ B w0, B ≤ w9.heap.size → Below B w0 ((w9.alloc o1).alloc o2) → Below B w0 w10) → (∀ B w0, B ≤ w9.heap.size + 1 → Below B w0 w10 → Below B w0 w11) → w11.heap[w9.heap.size + 1]? = some (.cells XC 40 (0, 0)) → UB w seed RO K14 K15 (w9.heap.size + 1) 0 UC XC D0 D1 cs ds w11) := fun o1 o2 w10 w11 f10 f11 q18 => by
    have b11 : Below w9.heap.size w9 w11 := f11 _ _ (by omega) (f10 _ _ (Nat.le_refl _) (bel2 w9 o1 o2))
    have bel := bW9.trans (b11.mono bW9.size)
    exact ⟨bel, (unhide HTw).below bel (Nat.le_refl _), at_below b11 r14', at_below b11 r15, q18, S0.below b11, S1.below b11⟩
  clear hC3 hXC hSd hDd hgd b9 r14 r14' r15 q15 q13 p1 hD8 t8 bW8 bW9 csz S0 S1 hS8 SB SS ST1
  go_wp2_with (first
    | (refine wpList_store_rowV rfl 29 (.tmp 17) (.tmp 50) rfl w9.heap.size C3 rfl rfl 29 _ (al2 w9 _ _).1 i3 (show _ = C3.size from unhide y3) o3 ?_; intro w10 s17 k10 z10 f10; have s18 := (k10 (w9.heap.size + 1) (Nat.succ_ne_self _)).trans (al2 w9 _ _).2)
    | (refine wpList_store_rowV rfl 40 (.tmp 18) (.tmp 51) rfl (w9.heap.size + 1) XC rfl rfl 40 _ s18 xi (show _ = XC.size from unhide x38) xo ?_; intro w11 q18 k11 z11 f11; have J := unhide HF11 _ _ w10 w11 f10 f11 q18; have j15 := J.r15; clear k10 z10 f10 k11 z11 f11 s17 s18 q18)
    | (refine wpList_load_row rfl 35 (.tmp 15) rfl K15 rfl 35 UC (0, 0) _ j15 Tryd.underlying35 rfl ui ?_))
  obtain ⟨K18, eK18⟩ : ∃ K, w9.heap.size + 1 = K := ⟨_, rfl⟩
  rw [eK18] at J
  simp only [eK18]
  clear HF11 eK18 j15
  refine (unhide BYc 0 _ J.s).mono ?_
  rintro e w12 ⟨rfl, b12⟩
  have J12 := J.below b12
  clear J b12
  go_wp2_with fail
  refine (unhide UR _).mono ?_
  rintro e w13 ⟨cv, rfl, sv, b13⟩
  have J13 := J12.below b13
  have v69 : Hid (69 = (updc home a b cv).size) := (unhide HD cv sv.size).symm
  have vi := upd_info _ (unhide HD cv sv.size)
  have vo := updc_one home a b cv sv.one
  have sv0 := sv.keep (C := 0) (fun _ _ _ => rfl) (Nat.zero_le _)
  have USc := fun B C W h1 h2 => unhide USc B C cv W h1 h2
  have RIc := fun B W hS t => unhide RI B cv W hS t
  obtain ⟨VC, hVC⟩ : ∃ U, updc home a b cv = U := ⟨_, rfl⟩
  rw [hVC] at v69 vi vo USc RIc
  rw [hVC]
  have USc := hide USc
  have RIc := hide RIc
  have HF14 : Hid (∀ Z, Below w13.heap.size w13 Z → UB w seed RO K14 K15 K18 0 UC XC D0 D1 cs ds Z ∧ SigL Z 0 seed D0 0 cv) := fun Z bZ => ⟨J13.below bZ, sv0.below bZ⟩
  have gK20 : w.heap.size ≤ w13.heap.size := J13.bel.size
  clear hVC sv sv0 J12 J13 b13 RI UR
  go_wp2_with (first
    | (refine wpList_store_newV rfl 35 (.tmp 20) (.tmp 57) rfl w13 _ _ VC rfl rfl vi (show _ = VC.size from unhide v69) vo ?_; intro w14 q20 b14 z14; obtain ⟨J14, sv14⟩ := unhide HF14 w14 b14; have j18 := J14.r18; clear b14 z14)
    | (refine wpList_load_row rfl 40 (.tmp 18) rfl K18 rfl 40 XC (0, 0) _ j18 Tryd.underlying40 rfl xi ?_))
  obtain ⟨K20, eK20⟩ : ∃ K, w13.heap.size = K := ⟨_, rfl⟩
  rw [eK20] at q20
  simp only [eK20]
  have hK20 : w.heap.size ≤ K20 := by rw [← eK20]; exact gK20
  clear HF14 eK20 j18 gK20
  refine (unhide SBc 0 _ J14.t).mono ?_
  rintro e w15 ⟨rfl, b15⟩
  have J15 := J14.below b15
  have q20a := at_below b15 q20
  have sv15 := sv14.below b15
  clear J14 b15 q20 sv14
  go_wp2_with fail
  refine (unhide SR _).mono ?_
  rintro e w16 ⟨cy, rfl, sy, b16⟩
  have J16 := J15.below b16
  have q20b := at_below b16 q20a
  have sv16 := sv15.below b16
  have g38 : Hid (38 = (stopc home a (y : Int) cy).size) := (unhide HE cy sy.size).symm
  have gi := stop_info _ (unhide HE cy sy.size)
  have gone := stopc_one home a (y : Int) cy sy.one
  have sy0 := sy.keep (C := 0) (fun _ _ _ => rfl) (Nat.zero_le _)
  have SSc := fun B C W h1 h2 => unhide SSc B C cy W h1 h2
  have HAc := fun B W hS t => unhide HA B cy W hS t
  obtain ⟨YC, hYC⟩ : ∃ U, stopc home a (y : Int) cy = U := ⟨_, rfl⟩
  rw [hYC] at g38 gi gone SSc HAc
  rw [hYC]
  have SSc := hide SSc
  have HAc := hide HAc
  have HF17 : Hid (∀ Z, Below w16.heap.size w16 Z → UB w seed RO K14 K15 K18 0 UC XC D0 D1 cs ds Z ∧ SigL Z 0 seed D0 0 cv ∧ SigL Z 0 seed D1 1 cy ∧ Z.heap[K20]? = some (.cells VC 35 (0, 0))) := fun Z bZ => ⟨J16.below bZ, sv16.below bZ, sy0.below bZ, at_below bZ q20b⟩
  have gK22 : w.heap.size ≤ w16.heap.size := J16.bel.size
  have gK2022 : w16.heap.size ≠ K20 := by have := (Array.getElem?_eq_some_iff.1 q20b).1; omega
  clear hYC sy sy0 J15 J16 b16 HA SR q20a q20b sv15 sv16
  go_wp2_with (first
    | go_skip
    | (refine wpList_store_newV rfl 40 (.tmp 22) (.tmp 63) rfl w16 _ _ YC rfl rfl gi (show _ = YC.size from unhide g38) gone ?_; intro w17 q22 b17 z17; obtain ⟨J17, sv17, sy17, q20⟩ := unhide HF17 w17 b17; have j15 := J17.r15; clear b17 z17)
    | (refine wpList_load_row_gd rfl 35 (.tmp 15) rfl K15 rfl 35 UC (0, 0) _ j15 Tryd.underlying35 rfl ui ?_)
    | (refine wpList_load_row_gd rfl 35 (.tmp 20) rfl K20 rfl 35 VC (0, 0) _ q20 Tryd.underlying35 rfl vi ?_))
  obtain ⟨K22, eK22⟩ : ∃ K, w16.heap.size = K := ⟨_, rfl⟩
  rw [eK22] at q22
  simp only [eK22]
  have hK22 : w.heap.size ≤ K22 := by rw [← eK22]; exact gK22
  have hK2022 : K22 ≠ K20 := by rw [← eK22]; exact gK2022
  clear HF17 eK22 j15 gK22 gK2022
  refine (unhide USc 0 0 _ J17.s sv17).mono ?_
  rintro e w18 ⟨rfl, b18⟩
  have J18 := J17.below b18
  have sv18 := sv17.below b18
  have sy18 := sy17.below b18
  have q20a := at_below b18 q20
  have q22a := at_below b18 q22
  have j18 := J18.r18
  clear J17 sv17 sy17 q20 q22 b18 USc
  go_wp2_with (first
    | go_skip
    | (refine wpList_load_row_gd rfl 40 (.tmp 18) rfl K18 rfl 40 XC (0, 0) _ j18 Tryd.underlying40 rfl xi ?_)
    | (refine wpList_load_row_gd rfl 40 (.tmp 22) rfl K22 rfl 40 YC (0, 0) _ q22a Tryd.underlying40 rfl gi ?_))
  refine (unhide SSc 0 0 _ J18.t sy18).mono ?_
  rintro e w19 ⟨rfl, b19⟩
  have J19 := J18.below b19
  have sv19 := sv18.below b19
  have sy19 := sy18.below b19
  have q20b := at_below b19 q20a
  have q22b := at_below b19 q22a
  have j14 := J19.r14
  clear J18 sv18 sy18 q20a q22a b19 j18 SSc
  go_wp2_with (first
    | go_skip
    | (refine wpList_load_row_gd rfl 23 (.tmp 14) rfl K14 rfl 23 _ (0, 0) _ j14 Tryd.underlying23 rfl hiR ?_)
    | (refine wpList_load_row_gd rfl 35 (.tmp 20) rfl K20 rfl 35 VC (0, 0) _ q20b Tryd.underlying35 rfl vi ?_))
  refine (unhide RIc 0 _ sv19 J19.tabs).mono ?_
  rintro e w20 ⟨rfl, b20⟩
  have J20 := J19.below b20
  have sy20 := sy19.below b20
  have q20c := at_below b20 q20b
  have q22c := at_below b20 q22b
  have j14a := J20.r14
  clear J19 sv19 sy19 q20b q22b b20 j14 RIc
  go_wp2_with (first
    | go_skip
    | (refine wpList_load_row_gd rfl 23 (.tmp 14) rfl K14 rfl 23 _ (0, 0) _ j14a Tryd.underlying23 rfl hiR ?_)
    | (refine wpList_load_row_gd rfl 40 (.tmp 22) rfl K22 rfl 40 YC (0, 0) _ q22c Tryd.underlying40 rfl gi ?_))
  refine (unhide HAc 0 _ sy20 J20.tabs).mono ?_
  rintro e w21 ⟨rfl, b21⟩
  have q20d := at_below b21 q20c
  have q22d := at_below b21 q22c
  have bW21 := J20.bel.trans (b21.mono J20.bel.size)
  have l20 := (Array.getElem?_eq_some_iff.1 q20d).1
  have l22 := (Array.getElem?_eq_some_iff.1 q22d).1
  clear J20 sy20 q20c q22c b21 j14a HAc
  go_wp2_with fail
  refine (unhide RS _).mono ?_
  rintro e w22 ⟨row, rfl, rz, ro, b22, hrow⟩
  have ri := upd_info row (unhide rz)
  have vz : Hid (VC.size = row.size) := (unhide v69).symm.trans (unhide rz).symm
  have q20e := at_below b22 q20d
  have q22e := at_below b22 q22d
  have bW22 := bW21.trans (b22.mono bW21.size)
  have z22 := b22.size
  have g20 : w.heap.size ≤ K20 := hK20
  have g22 : w.heap.size ≤ K22 := hK22
  have n20 : K22 ≠ K20 := hK2022
  clear b22 q20d q22d bW21 RS
  have HF23 : Hid (∀ w23, (∀ k, k ≠ K20 → w23.heap[k]? = w22.heap[k]?) → (∀ B w0, B ≤ K20 → Below B w0 w22 → Below B w0 w23) → w23.heap[K22]? = some (.cells YC 40 (0, 0)) ∧ Below w.heap.size w w23) := fun w23 k23 f23 => ⟨(k23 K22 n20).trans q22e, f23 _ _ g20 bW22⟩
  go_wp2_with (refine wpList_store_rowV rfl 35 (.tmp 20) (.tmp 106) rfl K20 row rfl rfl 35 _ q20e ri (unhide vz) ro ?_; intro w23 q20f k23 z23 f23; obtain ⟨q22f, bW23⟩ := unhide HF23 w23 k23 f23)
  refine (unhide RT _).mono ?_
  rintro e w24 ⟨row2, rfl, rz2, ro2, b24, hrow2⟩
  have ri2 := stop_info row2 (unhide rz2)
  have vz2 : Hid (YC.size = row2.size) := (unhide g38).symm.trans (unhide rz2).symm
  have q20g := at_below b24 q20f
  have q22g := at_below b24 q22f
  have bW24 := bW23.trans (b24.mono bW23.size)
  have z24 := b24.size
  have HF25 : Hid (∀ w25, (∀ k, k ≠ K22 → w25.heap[k]? = w24.heap[k]?) → (∀ B w0, B ≤ K22 → Below B w0 w24 → Below B w0 w25) → w25.heap.size = w24.heap.size → w25.heap[K20]? = some (.cells row 35 (0, 0)) ∧ Below w.heap.size w w25 ∧ Tabs w25 ∧ Hid (∀ k, w21.heap.size ≤ k → k < w22.heap.size → w25.heap[k]? = w22.heap[k]? ∧ k < w25.heap.size) ∧ Hid (∀ k, w23.heap.size ≤ k → k < w24.heap.size → w25.heap[k]? = w24.heap[k]? ∧ k < w25.heap.size)) := fun w25 k25 f25 z25 => by
    have bel := f25 _ _ g22 bW24
    refine ⟨(k25 K20 (Ne.symm n20)).trans q20g, bel, (unhide HTw).below bel (Nat.le_refl _), fun k h1 h2 => ⟨?_, by omega⟩, fun k h1 h2 => ⟨k25 k (by omega), by omega⟩⟩
    rw [k25 k (by omega), b24.block k (by omega), k23 k (by omega)]
  clear b24 q20e q22e q22f bW22 bW23 f23 RT HF23 bW24 q20f q20g
  go_wp2_with (refine wpList_store_rowV rfl 40 (.tmp 22) (.tmp 111) rfl K22 row2 rfl rfl 40 _ q22g ri2 (unhide vz2) ro2 ?_; intro w25 q22h k25 z25 f25; obtain ⟨q20h, bW25, t25, kp1, kp2⟩ := unhide HF25 w25 k25 f25 z25)
  clear k23 z23 k25 z25 f25 HF25 q22g z22 z24
  refine (unhide A _ t25).mono ?_
  rintro e w26 ⟨rfl, b26⟩
  have q20i := at_below b26 q20h
  have q22i := at_below b26 q22h
  have bW26 := bW25.trans (b26.mono bW25.size)
  have kq1 : Hid (∀ k, w21.heap.size ≤ k → k < w22.heap.size → w26.heap[k]? = w22.heap[k]?) := fun k h1 h2 => (b26.block k (unhide kp1 k h1 h2).2).trans (unhide kp1 k h1 h2).1
  have kq2 : Hid (∀ k, w23.heap.size ≤ k → k < w24.heap.size → w26.heap[k]? = w24.heap[k]? ∧ k < w26.heap.size) := fun k h1 h2 => ⟨(b26.block k (unhide kp2 k h1 h2).2).trans (unhide kp2 k h1 h2).1, Nat.lt_of_lt_of_le (unhide kp2 k h1 h2).2 b26.size⟩
  clear kp1 kp2 q20h q22h bW25 t25 b26 A
  have es : ((str s).toList == (str s).toList) = true := by simp
  have H1 := hide fun h => unhide hrow h w26 (unhide kq1)
  have H2 : Hid (sE s = 0 → ∀ W : World, Below w26.heap.size w26 W → Calls Tryd.prog 12 #[.agg row2] W fun e w'' => e = .returned (.string (str s)) ∧ Below W.heap.size W w'') := fun h W hW => unhide hrow2 h W (fun k h1 h2 => (hW.block k (unhide kq2 k h1 h2).2).trans (unhide kq2 k h1 h2).1)
  clear hrow hrow2 kq1 kq2
  generalize uE s = E1 at *
  generalize sE s = E2 at *
  by_cases c1 : E1 = 0
  · have d1 : (E1 != 0) = false := by simp [c1]
    have H1 := hide (unhide H1 c1)
    clear c1
    go_wp2_with (first
      | go_skip
      | (refine wpList_load_row_gd rfl 35 (.tmp 20) rfl K20 rfl 35 row (0, 0) _ q20i Tryd.underlying35 rfl ri ?_))
    refine (unhide H1).mono ?_
    rintro e w27 ⟨rfl, b27⟩
    have q22j := at_below b27 q22i
    have bW27 := bW26.trans (b27.mono bW26.size)
    by_cases c2 : E2 = 0
    · have d2 : (E2 != 0) = false := by simp [c2]
      have H2 := hide (unhide H2 c2 w27 b27)
      clear c2
      go_wp2_with (first
        | go_skip
        | (refine wpList_load_row_gd rfl 40 (.tmp 22) rfl K22 rfl 40 row2 (0, 0) _ q22j Tryd.underlying40 rfl ri2 ?_))
      refine (unhide H2).mono ?_
      rintro e w28 ⟨rfl, b28⟩
      go_wp2_with fail
      go_ret
      exact ⟨rfl, bW27.trans (b28.mono bW27.size)⟩
    · have d2 : (E2 != 0) = true := by simp [c2]
      clear c2
      go_wp2_with go_skip
      go_ret
      exact ⟨rfl, bW27⟩
  · have d1 : (E1 != 0) = true := by simp [c1]
    clear c1
    by_cases c2 : E2 = 0
    · have d2 : (E2 != 0) = false := by simp [c2]
      have H2 := hide (unhide H2 c2 w26 (Below.refl _ _))
      clear c2
      go_wp2_with (first
        | go_skip
        | (refine wpList_load_row_gd rfl 40 (.tmp 22) rfl K22 rfl 40 row2 (0, 0) _ q22i Tryd.underlying40 rfl ri2 ?_))
      refine (unhide H2).mono ?_
      rintro e w28 ⟨rfl, b28⟩
      go_wp2_with fail
      go_ret
      exact ⟨rfl, bW26.trans (b28.mono bW26.size)⟩
    · have d2 : (E2 != 0) = true := by simp [c2]
      clear c2
      go_wp2_with go_skip
      go_ret
      exact ⟨rfl, bW26⟩
end Go.Proofs.YtmgacpcpnijgdaaDoor
