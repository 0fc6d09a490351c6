/-
  A STOP AS A ROW; WHAT update's Halts RETURNS, where there is no log.
-/
/-
  THE LAYER's awake, OF UPDATES: what a signer signs is right under its root; an empty update is not.
-/
/-
  WHAT A READER's SMALL CALLS DO: Left, Fail, failed, End, take; a reader as a cell of memory; what else lies there stays.
-/
/-
  WHAT A READER's number, Byte, Word, Long ANSWER.
-/
/-
  'copy(b, s)' OF A TEXT INTO A ROW OF BYTES: as much as there is room for. As one step of a region that draws its order. Over whatever program.
-/
/-
  WHAT A READER's Digest, Digests, Sig ANSWER.
-/
/-
  WHAT A READER's Digests ANSWERS: the digests' bytes in a new row.
-/
/-
  WHAT A READER's Digests AND Sig ANSWER.
-/
/-
  THE LIBRARY'S CONTRACTS OF strings.Builder AT THIS SEAT'S NUMBERS: Grow of a new one (WriteString: ShelfW; String: ShelfB).
-/
/-
  WHAT wire's Digest AND Digests RETURN.
-/
/-
  WHAT wire's Sig RETURNS.
-/
/-
  WHAT package update's Bytes AND StopBytes RETURN.
-/
import Derived.Test.YtmgacpcpnijgdaaDoorJ5
import Derived.Test.YtmgacpcpnijgdaaDoorJ0
import Derived.Test.YtmgacpcpnijgdaaDoorJ2
import Derived.Laws.CopyRow
import Derived.Laws.CopyOwn
import Derived.Lib.BufferWrite
import Derived.Deep.RegionLaw
import Derived.Deep.RegionHeld3
import Derived.Deep.DeepCutAuto
import Derived.StillTailTactics
import Derived.Shelf.Strings.Builder2
import Derived.Test.YtmgacpcpnijgdaaDoorProg
import Derived.WalkKit
import Derived.Test.YtmgacpcpnijgdaaDoorJ1
import Derived.Deep.MidRow
import Derived.Deep.QuietTactic
import Derived.BigQuiet
import Derived.Test.YtmgacpcpnijgdaaDoorJ4
namespace Go.Proofs.YtmgacpcpnijgdaaDoor
open Go Go.RowKit
set_option linter.unusedSimpArgs false
set_option linter.unusedVariables false

def stopZ : Array Value := stopc 0 (List.replicate 32 0) 0 sigZ
theorem built_stop (home : Nat) (a : List UInt8) (ha : a.length = 32) (y x : Int) (p1 p2 p3 : Option Addr) (n1 n2 n3 c1 c2 c3 : Nat) : Tryd.prog.built 40 [(0, .int .u32 (home : Int)), (1, .agg (bc a)), (2, .int .i64 y), (3, .agg #[.int .i64 x, .slice p1 n1 c1, .slice p2 n2 c2, .slice p3 n3 c3])] = some (stopc home a y #[.int .i64 x, .slice p1 n1 c1, .slice p2 n2 c2, .slice p3 n3 c3]) := by
  obtain ⟨a0, a1, a2, a3, a4, a5, a6, a7, a8, a9, a10, a11, a12, a13, a14, a15, a16, a17, a18, a19, a20, a21, a22, a23, a24, a25, a26, a27, a28, a29, a30, a31, rfl⟩ := list32 a ha
  kernel_rfl
set_option maxHeartbeats 4000000 in
set_option maxRecDepth 100000 in
theorem uhalts_of (root : List UInt8) (hr : root.length = 32) (home : Nat) (hh : home < 4294967296) (a : List UInt8) (ha : a.length = 32) (x : Int) (cs : Array Value) (hc : cs.size = 4) (res : Bool) (w : World) (tabs : Tabs w)
    (hv : ∀ W, Below w.heap.size w W → Calls Tryd.prog 32 #[.pointer none, .agg (bc root), .agg (bc (pHalt home a x)), .agg cs] W fun e w' => e = .returned (.bool res) ∧ Below W.heap.size W w') :
    Calls Tryd.prog 16 #[.pointer none, .agg (bc root), .agg (stopc home a x cs)] w fun e w' => e = .returned (.bool res) ∧ Below w.heap.size w w' := by
  have hir := digInfo root hr
  obtain ⟨q0, q1⟩ := al2 w (.cells (bc root) 23) (.cells (stopc home a x cs) 40)
  have hbW := bel2 w (.cells (bc root) 23) (.cells (stopc home a x cs) 40)
  have cl := hide fun W t => halt_calls home hh a ha x W t
  have HV := hide hv
  obtain ⟨X, hX⟩ : ∃ X, (w.alloc (.cells (bc root) 23)).alloc (.cells (stopc home a x cs) 40) = X := ⟨_, rfl⟩
  rw [hX] at q0 q1 hbW
  have HX := hide hX
  have tX := tabs.below hbW (Nat.le_refl _)
  have zX := (Array.getElem?_eq_some_iff.1 q1).1
  have R0 : Hid (∀ w', (∃ p : Regrown, w' = Sort.grow (redrawn X p.d) p.os) → w'.heap[w.heap.size]? = some (.cells (bc root) 23 (0, 0))) := fun w' ⟨p, hp⟩ => by rw [hp]; exact Below.at (below_regrown X p.d p.os) (Array.getElem?_eq_some_iff.1 q0).1 q0
  have R1 : ∀ w' : World, (∃ p : Regrown, w' = Sort.grow (redrawn X p.d) p.os) → w'.heap[w.heap.size + 1]? = some (.cells (stopc home a x cs) 40 (0, 0)) := fun w' ⟨p, hp⟩ => by rw [hp]; exact Below.at (below_regrown X p.d p.os) zX q1
  have RA : Hid (∀ w', (∃ p : Regrown, w' = Sort.grow (redrawn X p.d) p.os) → w'.rangeAt (w.heap.size + 1) 1 (Lib.byteCells a)) := hide fun w' hp => stopc_key home a ha x cs w' _ _ (R1 w' hp)
  have RS : Hid (∀ w', (∃ p : Regrown, w' = Sort.grow (redrawn X p.d) p.os) → w'.rangeAt (w.heap.size + 1) 34 cs.toList) := hide fun w' hp => stopc_sig home a ha x cs hc w' _ _ (R1 w' hp)
  have c0 : ∀ d os, (Sort.grow (redrawn X d) os).cell? ⟨w.heap.size + 1, 0, none⟩ = some (.int .u32 (home : Int)) := fun d os => by
    rw [cell_of_row _ _ _ _ _ _ (R1 _ ⟨⟨d, os⟩, rfl⟩)]; exact stopc_home home a x cs
  have c33 : ∀ d os, (Sort.grow (redrawn X d) os).cell? ⟨w.heap.size + 1, 33, none⟩ = some (.int .i64 x) := fun d os => by
    rw [cell_of_row _ _ _ _ _ _ (R1 _ ⟨⟨d, os⟩, rfl⟩)]; exact stopc_who home a ha x cs
  have kC := hide fun d os => Calls.regrown_of (w := X) (d := d) (os := os) (unhide cl _ (tX.below (below_regrown X d os) (Nat.le_refl _)))
  have kV := hide fun d os => Calls.regrown_of (w := X) (d := d) (os := os) (unhide HV _ (hbW.trans ((below_regrown X d os).mono hbW.size)))
  have Ha := hide ha
  have Hc := hide hc
  generalize pHalt home a x = D at *
  generalize stopc home a x cs = UC at *
  clear tX tabs hv R1 q0 q1 zX hX ha hc
  go_enter Tryd.func16, Tryd.ntmps16
  go_wp2_with (rw [unhide HX])
  refine wp_region_below mixed (by kernel_rfl) ?_
  quiet_step (fail)
  refine wpQuiet_load_row rfl 23 (.tmp 4) rfl w.heap.size rfl 23 _ (0, 0) _ (unhide R0) Tryd.underlying23 rfl hir ?_
  quiet_step (fail)
  quiet_step (fail)
  quiet_step (fail)
  quiet_step (fail)
  refine wpQuiet_load_mid rfl 23 (.tmp 12) rfl (w.heap.size + 1) 1 rfl (Lib.byteCells a) _ (unhide RA) Tryd.underlying23 rfl (by rw [Lib.byteCells_length, unhide Ha]; kernel_rfl) ?_
  quiet_step (fail)
  quiet_step (fail)
  quiet_step (exact unhide kC _ _)
  quiet_step (fail)
  refine wpQuiet_load_mid rfl 33 (.tmp 17) rfl (w.heap.size + 1) 34 rfl cs.toList _ (unhide RS) Tryd.underlying33 rfl (by rw [Array.length_toList, unhide Hc]; kernel_rfl) ?_
  quiet_step (exact unhide kV _ _)
  repeat (quiet_step (fail))
  refine wpQuiet_nil ?_
  intro w2 b2
  go_wp2
  go_ret
  exact ⟨rfl, hbW.trans (b2.mono hbW.size)⟩
end Go.Proofs.YtmgacpcpnijgdaaDoor

namespace Go.Proofs.YtmgacpcpnijgdaaDoor
open Go Go.RowKit
set_option linter.unusedSimpArgs false
set_option linter.unusedVariables false

theorem leaf_word (seed : List UInt8) (x : Nat) (hx : x < 16) : (pLeaves seed).getD x [] = pWord seed x := by simp [pLeaves, hx]
/-- What a signer signs is right under its root. -/
theorem right_signed (seed : List UInt8) (hs : seed.length = 32) (x : Nat) (hx : x < 16) (home : Nat) (hh : home < 4294967296) (a b : List UInt8) (ha : a.length = 32) (hb : b.length = 32) (B : Nat) (cs : Array Value) (w : World) (hS : SigAt w B seed (pClaim home a b) (pLeaves seed) x cs) (tabs : Tabs w) :
    Calls Tryd.prog 15 #[.pointer none, .agg (bc (kRoot (pLeaves seed))), .agg (updc home a b cs)] w fun e w' => e = .returned (.bool true) ∧ Below w.heap.size w w' :=
  uright_of _ (kRoot_length _ (pLeaves_len seed)) home hh a b ha hb cs hS.size.1 true w tabs fun W hW =>
    verify_true seed (pClaim home a b) hs (pOf_length _ _) (pLeaves seed) (pLeaves_len seed) (pLeaves_32 seed) x hx (leaf_word seed x hx) B cs W (hS.below hW) (tabs.below hW (Nat.le_refl _))
theorem right_empty (root : List UInt8) (hr : root.length = 32) (w : World) (tabs : Tabs w) :
    Calls Tryd.prog 15 #[.pointer none, .agg (bc root), .agg updZ] w fun e w' => e = .returned (.bool false) ∧ Below w.heap.size w w' :=
  uright_of root hr 0 (by decide) _ _ (by simp) (by simp) sigZ rfl false w tabs fun W _ => verify_empty _ _ W
end Go.Proofs.YtmgacpcpnijgdaaDoor

namespace Go.Proofs.YtmgacpcpnijgdaaDoor
open Go.RowKit
set_option linter.unusedSimpArgs false
set_option linter.unusedVariables false

/-- All that lay there but one block lies as it lay. -/
structure Turned (g : Nat) (w w' : World) : Prop where
  below : Below g w w'
  kept : ∀ k, k < w.heap.size → k ≠ g → w'.heap[k]? = w.heap[k]?
theorem Turned.refl (g : Nat) (w : World) : Turned g w w := ⟨Below.refl _ _, fun _ _ _ => rfl⟩
theorem Turned.trans {g : Nat} {a b c : World} (h : Turned g a b) (k : Turned g b c) : Turned g a c :=
  ⟨h.below.trans k.below, fun i hi hg => (k.kept i (Nat.lt_of_lt_of_le hi h.below.size) hg).trans (h.kept i hi hg)⟩
theorem Turned.of_below {g : Nat} {w w' : World} (h : Below w.heap.size w w') (hg : g ≤ w.heap.size) : Turned g w w' :=
  ⟨h.mono hg, fun k hk _ => h.block k hk⟩
theorem Turned.setCell {g o : Nat} {w w' : World} (h : Turned g w w') (v : Value) : Turned g w (w'.setCell ⟨g, o, none⟩ v) :=
  ⟨h.below.setCell (by simp) _, fun k hk hg => by rw [heap_setCell_other _ _ _ _ (by show k ≠ g; exact hg)]; exact h.kept k hk hg⟩
theorem Turned.row {g k : Nat} {w w' : World} (h : Turned g w w') {o : Obj} (hg : k ≠ g) (ho : w.heap[k]? = some o) : w'.heap[k]? = some o :=
  (h.kept k (Array.getElem?_eq_some_iff.1 ho).1 hg).trans ho
/-- Behind a reader of the call's own, all that lay ahead of it lies. -/
theorem Turned.under {g B : Nat} {w0 w w' : World} (h : Turned g w w') (h0 : Below B w0 w) (hB : B ≤ g) : Below B w0 w' := h0.trans (h.below.mono hB)

/-- A reader: what is left, what is wrong. -/
structure Rd where
  (rest : List UInt8) (err : Int)
def Rd.cells (r : Rd) : Array Value := #[.string (str r.rest), .int .i64 r.err]
def RdAt (w : World) (g : Nat) (r : Rd) : Prop := w.heap[g]? = some (.cells r.cells 84 (0, 0))
theorem RdAt.lt {w : World} {g : Nat} {r : Rd} (h : RdAt w g r) : g < w.heap.size := (Array.getElem?_eq_some_iff.1 h).1
theorem RdAt.below {w w' : World} {g : Nat} {r : Rd} (h : RdAt w g r) (hb : Below w.heap.size w w') : RdAt w' g r := (hb.block g h.lt).trans h
theorem RdAt.c0 {w : World} {g : Nat} {r : Rd} (h : RdAt w g r) : w.cell? ⟨g, 0, none⟩ = some (.string (str r.rest)) := cell_of_row _ _ _ _ _ _ h
theorem RdAt.c1 {w : World} {g : Nat} {r : Rd} (h : RdAt w g r) : w.cell? ⟨g, 1, none⟩ = some (.int .i64 r.err) := cell_of_row _ _ _ _ _ _ h
theorem RdAt.f0 {w : World} {g : Nat} {r : Rd} (h : RdAt w g r) (o : Nat) : w.frozen? ⟨g, o, none⟩ = false := frozen_of_row _ _ _ _ _ h
theorem RdAt.set1 {w : World} {g : Nat} {r : Rd} (h : RdAt w g r) (e : Int) : RdAt (w.setCell ⟨g, 1, none⟩ (.int .i64 e)) g ⟨r.rest, e⟩ := heap_setCell_same _ _ _ _ _ _ h
theorem RdAt.set0 {w : World} {g : Nat} {r : Rd} (h : RdAt w g r) (l : List UInt8) : RdAt (w.setCell ⟨g, 0, none⟩ (.string (str l))) g ⟨l, r.err⟩ := heap_setCell_same _ _ _ _ _ _ h

def Rd.fail (r : Rd) (e : Int) : Rd := if r.err = 0 then ⟨r.rest, e⟩ else r
/-- A part of so many bytes, and the reader behind it. -/
def Rd.take (r : Rd) (n : Nat) : List UInt8 × Rd :=
  if r.err ≠ 0 then ([], r) else if r.rest.length < n then ([], ⟨r.rest, 3⟩) else (r.rest.take n, ⟨r.rest.drop n, 0⟩)

theorem left_calls (g : Nat) (r : Rd) (w : World) (h : RdAt w g r) :
    Calls Tryd.prog 59 #[.pointer (some ⟨g, 0, none⟩)] w fun e w' => e = .returned (.int .i64 (r.rest.length : Int)) ∧ w' = w := by
  have c0 := h.c0
  clear h
  go_enter Tryd.func59, Tryd.ntmps59
  go_wp2
  go_ret
  exact ⟨rfl, rfl⟩
theorem left_nil (w : World) :
    Calls Tryd.prog 59 #[.pointer none] w fun e w' => e = .returned (.int .i64 0) ∧ w' = w := by
  go_enter Tryd.func59, Tryd.ntmps59
  go_wp2
  go_ret
  exact ⟨rfl, rfl⟩
theorem failed_calls (g : Nat) (r : Rd) (w : World) (h : RdAt w g r) :
    Calls Tryd.prog 45 #[.pointer (some ⟨g, 0, none⟩)] w fun e w' => e = .returned (.bool (r.err != 0)) ∧ w' = w := by
  have c1 := h.c1
  clear h
  go_enter Tryd.func45, Tryd.ntmps45
  go_wp2
  go_ret
  exact ⟨rfl, rfl⟩
theorem failed_nil (w : World) :
    Calls Tryd.prog 45 #[.pointer none] w fun e w' => e = .returned (.bool true) ∧ w' = w := by
  go_enter Tryd.func45, Tryd.ntmps45
  go_wp2
  go_ret
  exact ⟨rfl, rfl⟩
theorem fail_calls (g : Nat) (r : Rd) (k : Int) (w : World) (h : RdAt w g r) :
    Calls Tryd.prog 43 #[.pointer (some ⟨g, 0, none⟩), .int .i64 k] w fun e w' => e = .returned (.tuple #[]) ∧ RdAt w' g (r.fail k) ∧ Turned g w w' := by
  have c1 := h.c1
  have f1 := h.f0 1
  by_cases h0 : r.err = 0
  · have e1 : (r.err == 0) = true := by simpa using h0
    have hr : r.fail k = ⟨r.rest, k⟩ := by rw [Rd.fail, if_pos h0]
    have H := hide h
    rw [hr]
    generalize r.err = re at *
    clear h0 h hr
    go_enter Tryd.func43, Tryd.ntmps43
    go_wp2
    go_end0
    exact ⟨rfl, (unhide H).set1 k, (Turned.refl _ _).setCell _⟩
  · have e1 : (r.err == 0) = false := by simpa using h0
    have hr : r.fail k = r := by rw [Rd.fail, if_neg h0]
    have H := hide h
    rw [hr]
    clear h0 h hr
    go_enter Tryd.func43, Tryd.ntmps43
    go_wp2
    go_end0
    exact ⟨rfl, unhide H, Turned.refl _ _⟩
theorem fail_nil (k : Int) (w : World) :
    Calls Tryd.prog 43 #[.pointer none, .int .i64 k] w fun e w' => e = .returned (.tuple #[]) ∧ w' = w := by
  go_enter Tryd.func43, Tryd.ntmps43
  go_wp2
  go_end0
  exact ⟨rfl, rfl⟩
def Rd.end' (r : Rd) : Int := if r.err ≠ 0 then r.err else if r.rest ≠ [] then 4 else 0
theorem end_nil (w : World) :
    Calls Tryd.prog 27 #[.pointer none] w fun e w' => e = .returned (.int .i64 1) ∧ w' = w := by
  go_enter Tryd.func27, Tryd.ntmps27
  go_wp2
  go_ret
  exact ⟨rfl, rfl⟩
theorem take_nil (n : Nat) (hn : n ≤ 9223372036854775807) (w : World) :
    Calls Tryd.prog 42 #[.pointer none, .int .i64 (n : Int)] w fun e w' => e = .returned (.string (str [])) ∧ w' = w := by
  cases hd : decide (0 < n) with
  | true =>
    go_enter Tryd.func42, Tryd.ntmps42
    go_wp2_with fail
    refine (left_nil _).mono ?_
    rintro e w' ⟨rfl, rfl⟩
    go_wp2_with fail
    refine (fail_nil _ _).mono ?_
    rintro e w' ⟨rfl, rfl⟩
    go_wp2_with fail
    refine (failed_nil _).mono ?_
    rintro e w' ⟨rfl, rfl⟩
    go_wp2
    go_ret
    exact ⟨rfl, rfl⟩
  | false =>
    go_enter Tryd.func42, Tryd.ntmps42
    go_wp2_with fail
    refine (left_nil _).mono ?_
    rintro e w' ⟨rfl, rfl⟩
    go_wp2_with fail
    refine (failed_nil _).mono ?_
    rintro e w' ⟨rfl, rfl⟩
    go_wp2
    go_ret
    exact ⟨rfl, rfl⟩
theorem rdend_calls (g : Nat) (r : Rd) (w : World) (h : RdAt w g r) :
    Calls Tryd.prog 27 #[.pointer (some ⟨g, 0, none⟩)] w fun e w' => e = .returned (.int .i64 r.end') ∧ w' = w := by
  have c0 := h.c0
  have c1 := h.c1
  clear h
  by_cases h0 : r.err = 0
  · have e1 : (r.err != 0) = false := by simpa using h0
    by_cases h1 : r.rest = []
    · have hr : r.end' = 0 := by simp [Rd.end', h0, h1]
      rw [hr]
      rw [h1, show str [] = (⟨#[]⟩ : ByteArray) from rfl] at c0
      generalize r.err = re at *
      clear hr h0 h1
      go_enter Tryd.func27, Tryd.ntmps27
      go_wp2
      go_ret
      exact ⟨rfl, rfl⟩
    · have hr : r.end' = 4 := by simp [Rd.end', h0, h1]
      have hne : (str r.rest).toList.isEmpty = false := by rw [ByteArray.toList_eq, str_toList]; cases hl : r.rest with | nil => exact absurd hl h1 | cons _ _ => rfl
      rw [hr]
      generalize r.err = re at *
      clear hr h0 h1
      go_enter Tryd.func27, Tryd.ntmps27
      go_wp2
      go_ret
      exact ⟨rfl, rfl⟩
  · have e1 : (r.err != 0) = true := by simpa using h0
    have hr : r.end' = r.err := by simp [Rd.end', h0]
    rw [hr]
    clear hr h0
    go_enter Tryd.func27, Tryd.ntmps27
    go_wp2
    go_ret
    exact ⟨rfl, rfl⟩
set_option maxHeartbeats 1000000 in
theorem take_calls (g n : Nat) (hn : n ≤ 4611686018427387904) (r : Rd) (hl : r.rest.length ≤ 4611686018427387904) (w : World) (h : RdAt w g r) :
    Calls Tryd.prog 42 #[.pointer (some ⟨g, 0, none⟩), .int .i64 (n : Int)] w fun e w' => e = .returned (.string (str (r.take n).1)) ∧ RdAt w' g (r.take n).2 ∧ Turned g w w' := by
  by_cases h0 : r.err = 0
  · by_cases h1 : r.rest.length < n
    · have hd : decide (r.rest.length < n) = true := by simp; omega
      have hr : r.take n = ([], ⟨r.rest, 3⟩) := by simp [Rd.take, h0, h1]
      have hf : r.fail 3 = ⟨r.rest, 3⟩ := by rw [Rd.fail, if_pos h0]
      rw [hr]
      have H := hide h
      have Hf := hide hf
      clear hr h0 h1 h hf
      go_enter Tryd.func42, Tryd.ntmps42
      go_wp2_with fail
      refine (left_calls g r _ (unhide H)).mono ?_
      rintro e w' ⟨rfl, rfl⟩
      go_wp2_with fail
      refine (fail_calls g r 3 _ (unhide H)).mono ?_
      rintro e w1 ⟨rfl, h1, t1⟩
      rw [unhide Hf] at h1
      have H1 := hide h1
      clear h1
      go_wp2_with fail
      refine (failed_calls g _ _ (unhide H1)).mono ?_
      rintro e w' ⟨rfl, rfl⟩
      go_wp2
      go_ret
      exact ⟨rfl, unhide H1, t1⟩
    · have hd : decide (r.rest.length < n) = false := by simp; omega
      have hr : r.take n = (r.rest.take n, ⟨r.rest.drop n, 0⟩) := by simp [Rd.take, h0, h1]
      have e0 : (r.err != 0) = false := by simpa using h0
      rw [hr]
      have H := hide h
      have H0 := hide h0
      have c0 := h.c0
      have f0 := h.f0 0
      have es := take_str r.rest n
      have ed := drop_str r.rest n _ rfl
      have b0 : (n : Int) ≤ (r.rest.length : Int) := by omega
      clear hr h0 h1 h
      go_enter Tryd.func42, Tryd.ntmps42
      go_wp2_with fail
      refine (left_calls g r _ (unhide H)).mono ?_
      rintro e w' ⟨rfl, rfl⟩
      go_wp2_with fail
      refine (failed_calls g r _ (unhide H)).mono ?_
      rintro e w' ⟨rfl, rfl⟩
      rw [e0]
      go_wp2
      go_ret
      have h2 := (unhide H).set0 (r.rest.drop n)
      rw [unhide H0] at h2
      exact ⟨rfl, h2, (Turned.refl _ _).setCell _⟩
  · have e0 : (r.err != 0) = true := by simpa using h0
    have hr : r.take n = ([], r) := by simp [Rd.take, h0]
    have hf : r.fail 3 = r := by rw [Rd.fail, if_neg h0]
    rw [hr]
    have H := hide h
    have Hf := hide hf
    clear hr h0 h hf
    cases hd : decide (r.rest.length < n) with
    | true =>
      go_enter Tryd.func42, Tryd.ntmps42
      go_wp2_with fail
      refine (left_calls g r _ (unhide H)).mono ?_
      rintro e w' ⟨rfl, rfl⟩
      go_wp2_with fail
      refine (fail_calls g r 3 _ (unhide H)).mono ?_
      rintro e w1 ⟨rfl, h1, t1⟩
      rw [unhide Hf] at h1
      have H1 := hide h1
      clear h1
      go_wp2_with fail
      refine (failed_calls g _ _ (unhide H1)).mono ?_
      rintro e w' ⟨rfl, rfl⟩
      rw [e0]
      go_wp2
      go_ret
      exact ⟨rfl, unhide H1, t1⟩
    | false =>
      go_enter Tryd.func42, Tryd.ntmps42
      go_wp2_with fail
      refine (left_calls g r _ (unhide H)).mono ?_
      rintro e w' ⟨rfl, rfl⟩
      go_wp2_with fail
      refine (failed_calls g _ _ (unhide H)).mono ?_
      rintro e w' ⟨rfl, rfl⟩
      rw [e0]
      go_wp2
      go_ret
      exact ⟨rfl, unhide H, Turned.refl _ _⟩
end Go.Proofs.YtmgacpcpnijgdaaDoor

namespace Go.Proofs.YtmgacpcpnijgdaaDoor
open Go.RowKit
set_option linter.unusedSimpArgs false
set_option linter.unusedVariables false

/-- The number that bytes are, the highest first. -/
def pNum (l : List UInt8) : Nat := l.foldl (fun n b => n * 256 + b.toNat) 0
theorem pNum_snoc (l : List UInt8) (b : UInt8) : pNum (l ++ [b]) = pNum l * 256 + b.toNat := by simp [pNum]
theorem pNum_lt_from : ∀ (l : List UInt8) (a : Nat), l.foldl (fun n b => n * 256 + b.toNat) a < (a + 1) * 256 ^ l.length
  | [], a => by simp
  | b :: l, a => by
    have h := pNum_lt_from l (a * 256 + b.toNat)
    have hb := b.toNat_lt
    rw [List.foldl_cons, List.length_cons, Nat.pow_succ, Nat.mul_comm (256 ^ l.length) 256, ← Nat.mul_assoc]
    exact Nat.lt_of_lt_of_le h (Nat.mul_le_mul_right _ (by omega))
theorem pNum_lt (l : List UInt8) : pNum l < 256 ^ l.length := by
  have := pNum_lt_from l 0
  rw [Nat.zero_add, Nat.one_mul] at this; exact this
theorem or256 (m b : Nat) (hm : m < 72057594037927936) (hb : b < 256) : bits BinOp.or IntKind.u64 ((m : Int) * 256) (b : Int) = ((m * 256 + b : Nat) : Int) := by
  have e : (m : Int) * 256 = ((m * 256 : Nat) : Int) := by omega
  rw [e, u64_or_nat _ _ (by omega) (by omega), nat_join 8 _ _ (by omega) (by omega)]

set_option maxHeartbeats 400000 in
theorem rnumber_of (p : Value) (n : Nat) (l : List UInt8) (hl : l.length ≤ 8) (R : World → Prop) (w : World)
    (ht : Calls Tryd.prog 42 #[p, .int .i64 (n : Int)] w fun e w1 => e = .returned (.string (str l)) ∧ R w1) :
    Calls Tryd.prog 41 #[p, .int .i64 (n : Int)] w fun e w' => e = .returned (.int .u64 (pNum l : Int)) ∧ ∃ w1, R w1 ∧ Below w1.heap.size w1 w' := by
  have Ht := hide ht
  clear ht
  go_enter Tryd.func41, Tryd.ntmps41
  go_wp2_with fail
  refine (unhide Ht).mono ?_
  rintro e w1 ⟨rfl, hR⟩
  have cv := conv_run l w1
  have hby := bworld_bytes w1 l
  have hbb := bworld_below l (Below.refl w1.heap.size w1) (Nat.le_refl _)
  generalize hW : bworld w1 l = W at *
  have Hby := hide hby
  clear hby hW
  go_wp2
  go_loopw [5, 13] (fun a i wr => ∃ k : Nat, k ≤ l.length ∧ a = .int .u64 (pNum (l.take k) : Int) ∧ i = .int .i64 (k : Int) ∧ wr = W) (fun _ i _ => l.length - (intOf i).toNat)
  case atStart => exact ⟨0, by omega, rfl, rfl, rfl⟩
  case round =>
    obtain ⟨k, hk, rfl, rfl, rfl⟩ := hrel
    by_cases hlt : k < l.length
    · have c := unhide Hby k hlt
      rw [Nat.zero_add] at c
      have hsn := take_snoc' l k 0 hlt
      generalize hb : l.getD k 0 = b at *
      have hpn := pNum_snoc (l.take k) b
      rw [← hsn] at hpn
      have hlt2 := pNum_lt (l.take k)
      have hm : pNum (l.take k) < 72057594037927936 := Nat.lt_of_lt_of_le hlt2 (by
        have : (l.take k).length ≤ 7 := by simp; omega
        calc 256 ^ (l.take k).length ≤ 256 ^ 7 := Nat.pow_le_pow_right (by decide) this
          _ = 72057594037927936 := by decide)
      generalize pNum (l.take k) = m at *
      have hb8 := b.toNat_lt
      have hd : decide (k < l.length) = true := by simpa using hlt
      have b1 : (k : Int) < (l.length : Int) := by omega
      have Hpn := hide hpn
      clear hpn hsn hb hlt2
      go_wp2
      go_roundw
      case rel =>
        refine ⟨k + 1, by omega, ?_, by go_num, trivial⟩
        rw [unhide Hpn]
        rw [or256 m b.toNat hm hb8]
      case measure => simp [intOf]; omega
    · obtain rfl : k = l.length := by omega
      have hd : decide (l.length < l.length) = false := by simp
      rw [List.take_length]
      go_wp2
      go_ret
      exact ⟨rfl, w1, hR, hbb⟩
/-- The number of so many bytes, and the reader behind it. -/
def Rd.num (r : Rd) (n : Nat) : Nat × Rd := (pNum (r.take n).1, (r.take n).2)
theorem Rd.take_length (r : Rd) (n : Nat) : (r.take n).1.length ≤ n := by
  unfold Rd.take
  split
  · simp
  · split
    · simp
    · simp; omega
theorem Rd.take_rest (r : Rd) (n : Nat) : (r.take n).2.rest.length ≤ r.rest.length := by
  unfold Rd.take
  split
  · simp
  · split
    · simp
    · simp
theorem Rd.num_lt (r : Rd) (n : Nat) : (r.num n).1 < 256 ^ n := Nat.lt_of_lt_of_le (pNum_lt _) (Nat.pow_le_pow_right (by decide) (r.take_length n))
theorem rnumber_calls (g n : Nat) (hn : n ≤ 8) (r : Rd) (hl : r.rest.length ≤ 4611686018427387904) (w : World) (h : RdAt w g r) :
    Calls Tryd.prog 41 #[.pointer (some ⟨g, 0, none⟩), .int .i64 (n : Int)] w fun e w' => e = .returned (.int .u64 ((r.num n).1 : Int)) ∧ RdAt w' g (r.num n).2 ∧ Turned g w w' := by
  refine (rnumber_of _ n (r.take n).1 (Nat.le_trans (r.take_length n) hn) (fun w1 => RdAt w1 g (r.take n).2 ∧ Turned g w w1) w (take_calls g n (by omega) r hl w h)).mono ?_
  rintro e w' ⟨rfl, w1, ⟨h1, t1⟩, hb⟩
  exact ⟨rfl, h1.below hb, t1.trans (Turned.of_below hb (Nat.le_of_lt h1.lt))⟩
theorem rnumber_nil (n : Nat) (hn : n ≤ 8) (w : World) :
    Calls Tryd.prog 41 #[.pointer none, .int .i64 (n : Int)] w fun e w' => e = .returned (.int .u64 0) ∧ Below w.heap.size w w' := by
  refine (rnumber_of _ n [] (by simp) (fun w1 => w1 = w) w (take_nil n (by omega) w)).mono ?_
  rintro e w' ⟨rfl, w1, rfl, hb⟩
  exact ⟨rfl, hb⟩
theorem rword_calls (g : Nat) (r : Rd) (hl : r.rest.length ≤ 4611686018427387904) (w : World) (h : RdAt w g r) :
    Calls Tryd.prog 24 #[.pointer (some ⟨g, 0, none⟩)] w fun e w' => e = .returned (.int .u32 ((r.num 4).1 : Int)) ∧ RdAt w' g (r.num 4).2 ∧ Turned g w w' := by
  have hc := rnumber_calls g 4 (by decide) r hl w h
  have hlt := r.num_lt 4
  generalize (r.num 4).2 = r1 at *
  generalize (r.num 4).1 = m at *
  have Hc := hide hc
  have hm : m < 4294967296 := hlt
  clear hc h hlt
  go_enter Tryd.func24, Tryd.ntmps24
  go_wp2_with fail
  refine (unhide Hc).mono ?_
  rintro e w' ⟨rfl, h1, t1⟩
  go_wp2
  go_ret
  exact ⟨rfl, h1, t1⟩
theorem rword_nil (w : World) :
    Calls Tryd.prog 24 #[.pointer none] w fun e w' => e = .returned (.int .u32 0) ∧ Below w.heap.size w w' := by
  go_enter Tryd.func24, Tryd.ntmps24
  go_wp2_with fail
  refine (rnumber_nil 4 (by decide) _).mono ?_
  rintro e w' ⟨rfl, hb⟩
  go_wp2
  go_ret
  exact ⟨rfl, hb⟩
/-- A word that is at most so much. -/
def Rd.len (r : Rd) (most : Int) : Nat × Rd := ((r.num 4).1, if 0 < (r.num 4).1 ∧ most < ((r.num 4).1 : Int) then (r.num 4).2.fail 5 else (r.num 4).2)
theorem Rd.len_lt (r : Rd) (most : Int) : (r.len most).1 < 4294967296 := r.num_lt 4
set_option maxHeartbeats 400000 in
theorem rlength_calls (g : Nat) (r : Rd) (hl : r.rest.length ≤ 4611686018427387904) (most : Int) (w : World) (h : RdAt w g r) :
    Calls Tryd.prog 60 #[.pointer (some ⟨g, 0, none⟩), .int .i64 most] w fun e w' => e = .returned (.int .i64 ((r.len most).1 : Int)) ∧ RdAt w' g (r.len most).2 ∧ Turned g w w' := by
  have hc := rword_calls g r hl w h
  have hlt := r.num_lt 4
  unfold Rd.len
  generalize (r.num 4).2 = r1 at *
  generalize (r.num 4).1 = m at *
  have Hc := hide hc
  have hm : m < 4294967296 := hlt
  clear hc h hlt
  by_cases h0 : 0 < m
  · have d0 : decide (0 < m) = true := by simpa using h0
    by_cases h1 : most < (m : Int)
    · have d1 : decide (most < (m : Int)) = true := by simpa using h1
      have hr : (if 0 < m ∧ most < (m : Int) then r1.fail 5 else r1) = r1.fail 5 := by simp [h0, h1]
      simp only [hr]
      clear hr h0 h1
      go_enter Tryd.func60, Tryd.ntmps60
      go_wp2_with fail
      refine (unhide Hc).mono ?_
      rintro e w1 ⟨rfl, h1, t1⟩
      go_wp2_with fail
      refine (fail_calls g r1 5 _ h1).mono ?_
      rintro e w2 ⟨rfl, h2, t2⟩
      go_wp2
      go_ret
      exact ⟨rfl, h2, t1.trans t2⟩
    · have d1 : decide (most < (m : Int)) = false := by simpa using h1
      have hr : (if 0 < m ∧ most < (m : Int) then r1.fail 5 else r1) = r1 := by simp [h0, h1]
      simp only [hr]
      clear hr h0 h1
      go_enter Tryd.func60, Tryd.ntmps60
      go_wp2_with fail
      refine (unhide Hc).mono ?_
      rintro e w1 ⟨rfl, h1, t1⟩
      go_wp2
      go_ret
      exact ⟨rfl, h1, t1⟩
  · have d0 : decide (0 < m) = false := by simpa using h0
    have hr : (if 0 < m ∧ most < (m : Int) then r1.fail 5 else r1) = r1 := by simp [h0]
    simp only [hr]
    clear hr h0
    go_enter Tryd.func60, Tryd.ntmps60
    go_wp2_with fail
    refine (unhide Hc).mono ?_
    rintro e w1 ⟨rfl, h1, t1⟩
    go_wp2
    go_ret
    exact ⟨rfl, h1, t1⟩
theorem rlength_nil (most : Int) (w : World) :
    Calls Tryd.prog 60 #[.pointer none, .int .i64 most] w fun e w' => e = .returned (.int .i64 0) ∧ Below w.heap.size w w' := by
  go_enter Tryd.func60, Tryd.ntmps60
  go_wp2_with fail
  refine (rword_nil _).mono ?_
  rintro e w' ⟨rfl, hb⟩
  go_wp2
  go_ret
  exact ⟨rfl, hb⟩
theorem Rd.fail_rest (r : Rd) (e : Int) : (r.fail e).rest = r.rest := by unfold Rd.fail; split <;> rfl
theorem Rd.len_rest (r : Rd) (most : Int) : (r.len most).2.rest.length ≤ r.rest.length := by
  unfold Rd.len
  have := r.take_rest 4
  split
  · rw [Rd.fail_rest]; exact this
  · exact this
/-- A text of at most so many bytes. -/
def Rd.text (r : Rd) (most : Int) : List UInt8 × Rd := (r.len most).2.take (r.len most).1
end Go.Proofs.YtmgacpcpnijgdaaDoor

namespace Go.Proofs.YtmgacpcpnijgdaaDoor
open Go Go.RowKit
set_option linter.unusedSimpArgs false
set_option linter.unusedVariables false

theorem bc_toList (l : List UInt8) : (bc l).toList = Lib.byteCells l := by simp [bc]
theorem run_copy_str {P : Program} (w : World) (dT sT ty elem : TypeId) (g o dLen dCap : Nat) (l cur : List UInt8) (t : TypeId)
    (hu : P.underlying dT = some (.slice elem)) (hs : (P.info? elem).map (·.size) = some 1) (hg : w.heap[g]? = some (.cells (bc cur) t (0, 0))) (m : Nat) (hm : m = Nat.min l.length dLen) (hfit : o + m ≤ cur.length) :
    (Builtin.copy_ #[dT, sT] ty #[.slice (some ⟨g, o, none⟩) dLen dCap, .string (str l)]).run P w = .ok (goInt m) (w.setRow g (bc (cur.take o ++ l.take m ++ cur.drop (o + m)))) := by
  have hl : (Lib.byteCells (l.take m)).length = m := by
    rw [Lib.byteCells_length, List.length_take, hm]; exact Nat.min_eq_left (Nat.min_le_left _ _)
  have hst := run_storeCells_at (P := P) g o t (Lib.byteCells (l.take m)) 0 (bc cur) w hg (by rw [hl, bc_size]; simpa using hfit) (Lib.byteCells_one _)
  rw [hl, bc_toList, Nat.add_zero] at hst
  have e : ((Lib.byteCells cur).take o ++ Lib.byteCells (l.take m) ++ (Lib.byteCells cur).drop (o + m)).toArray = bc (cur.take o ++ l.take m ++ cur.drop (o + m)) := by
    simp [bc, Lib.byteCells]
  rw [e] at hst
  have hmin : Nat.min (str l).size dLen = m := by rw [str_size, hm]
  have htk : List.take m (List.map (fun b : UInt8 => Value.int IntKind.u8 (b.toNat : Int)) (str l).data.toList) = Lib.byteCells (l.take m) := by
    rw [str_toList]; simp [Lib.byteCells]
  cases hq : P.info? elem with
  | none => simp [hq] at hs
  | some i =>
    simp [Builtin.copy_, run_underlying hu, Builtin.lenOf, Builtin.firstCells, sizeOf, typeInfo, hq]
    rw [str_size] at hmin
    have hmin' : (min l.length dLen) = m := hmin
    rw [str_toList] at htk
    simp [hmin', htk, hst, Result.andThen]
theorem step_copy_str {P : Program} {ops : Array Oper} {o : Oper} {a : Act} {w : World} {K : Act → World → Prop} {Q : Exit → Act → World → Prop} {E : Prop}
    (hgd : o.guard = none) (d x : Operand) (dT sT : TypeId) (hop : o.op = Op.call { callee := Callee.builtin Builtin.copy, args := #[d, x], argTypes := #[dT, sT] })
    (elem : TypeId) (hu : P.underlying dT = some (.slice elem)) (hs : (P.info? elem).map (·.size) = some 1)
    (g off dLen dCap : Nat) (hd : a.eval d = .slice (some ⟨g, off, none⟩) dLen dCap) (l : List UInt8) (hx : a.eval x = .string (str l)) (cur : List UInt8) (t : TypeId) (hg : w.heap[g]? = some (.cells (bc cur) t (0, 0)))
    (m : Nat) (hm : m = Nat.min l.length dLen) (hfit : off + m ≤ cur.length)
    (hK : K (a.put o.dst (goInt m)) (w.setRow g (bc (cur.take off ++ l.take m ++ cur.drop (off + m))))) :
    if Region.wanted o (yielded ops a.tmps) = true then Oper.wp P o a w K Q else E := by
  have hw : Region.wanted o (yielded ops a.tmps) = true := by simp [Region.wanted, hgd]
  rw [if_pos hw]
  have hrun := run_copy_str (P := P) w dT sT o.type elem g off dLen dCap l cur t hu hs hg m hm hfit
  unfold Oper.wp
  rw [List.append_assoc] at hK hrun
  simp [execOp, hop, resolve, invoke, builtin, hd, hx, hrun, Result.andThen]
  exact hK
theorem wpList_copy_str {P : Program} {w : World} {ops : Array Oper} {rest : List Oper} {o : Oper} {a : Act} {Q : Exit → Act → World → Prop} (hgd : o.guard = none) (d x : Operand) (dT sT : TypeId)
    (hop : o.op = Op.call { callee := Callee.builtin Builtin.copy, args := #[d, x], argTypes := #[dT, sT] })
    (elem : TypeId) (hu : P.underlying dT = some (.slice elem)) (hs : (P.info? elem).map (·.size) = some 1)
    (g off dLen dCap : Nat) (hd : a.eval d = .slice (some ⟨g, off, none⟩) dLen dCap) (l : List UInt8) (hx : a.eval x = .string (str l)) (cur : List UInt8) (t : TypeId) (hg : w.heap[g]? = some (.cells (bc cur) t (0, 0)))
    (m : Nat) (hm : m = Nat.min l.length dLen) (hfit : off + m ≤ cur.length)
    (h : wpList P ops Q rest (a.put o.dst (goInt m)) (w.setRow g (bc (cur.take off ++ l.take m ++ cur.drop (off + m))))) : wpList P ops Q (o :: rest) a w := by
  refine wpList_plain hgd fun K hK => ?_
  have hrun := run_copy_str (P := P) w dT sT o.type elem g off dLen dCap l cur t hu hs hg m hm hfit
  unfold Oper.wp
  rw [List.append_assoc] at h hrun
  simp [execOp, hop, resolve, invoke, builtin, hd, hx, hrun, Result.andThen]
  exact hK _ _ h
end Go.Proofs.YtmgacpcpnijgdaaDoor

namespace Go.Proofs.YtmgacpcpnijgdaaDoor
open Go.RowKit
set_option linter.unusedSimpArgs false
set_option linter.unusedVariables false

/-- A digest of the bytes that are there. -/
def pad32 (l : List UInt8) : List UInt8 := l ++ List.replicate (32 - l.length) 0
theorem pad32_length (l : List UInt8) (h : l.length ≤ 32) : (pad32 l).length = 32 := by simp [pad32]; omega

set_option maxHeartbeats 1000000 in
set_option maxRecDepth 100000 in
theorem rdigest_of (p : Value) (l : List UInt8) (hl : l.length ≤ 32) (Post : World → World → Prop) (w : World)
    (ht : ∀ w1, Below w.heap.size w w1 → Calls Tryd.prog 42 #[p, .int .i64 32] w1 fun e w2 => e = .returned (.string (str l)) ∧ Post w1 w2)
    (hP : ∀ w1 w2, Post w1 w2 → ∀ k o, w.heap.size ≤ k → w1.heap[k]? = some o → w2.heap[k]? = some o) :
    Calls Tryd.prog 25 #[p] w fun e w' => e = .returned (.agg (bc (pad32 l))) ∧ ∃ w1 w2, Below w.heap.size w w1 ∧ Post w1 w2 ∧ Below w.heap.size w2 w' := by
  have q0 := (al2 w (.cells (bc (List.replicate 32 0)) 23) (.cells (bc (List.replicate 32 0)) 23)).1
  have q1 := (al2 w (.cells (bc (List.replicate 32 0)) 23) (.cells (bc (List.replicate 32 0)) 23)).2
  have hb2 := bel2 w (.cells (bc (List.replicate 32 0)) 23) (.cells (bc (List.replicate 32 0)) 23)
  have ht2 : ∀ w1, Below ((w.alloc (.cells (bc (List.replicate 32 0)) 23)).alloc (.cells (bc (List.replicate 32 0)) 23)).heap.size ((w.alloc (.cells (bc (List.replicate 32 0)) 23)).alloc (.cells (bc (List.replicate 32 0)) 23)) w1 → Calls Tryd.prog 42 #[p, .int .i64 32] w1 fun e w2 => e = .returned (.string (str l)) ∧ (∃ w1, Below w.heap.size w w1 ∧ Post w1 w2) ∧ w2.heap[w.heap.size]? = some (.cells (bc (List.replicate 32 0)) 23 (0, 0)) ∧ w2.heap[w.heap.size + 1]? = some (.cells (bc (List.replicate 32 0)) 23 (0, 0)) := fun w1 hb1 => by
    have hbw : Below w.heap.size w w1 := hb2.trans (hb1.mono hb2.size)
    refine (ht w1 hbw).mono ?_
    rintro e w2 ⟨rfl, hp⟩
    exact ⟨rfl, ⟨w1, hbw, hp⟩, hP _ _ hp _ _ (Nat.le_refl _) (Below.at hb1 (by simp; omega) q0), hP _ _ hp _ _ (by omega) (Below.at hb1 (by simp) q1)⟩
  have Ht := hide ht2
  clear ht hP q0 q1 hb2 ht2
  have hsz : List.replicate 32 (0 : UInt8) = List.replicate 32 0 := rfl
  go_enter Tryd.func25, Tryd.ntmps25
  go_wp2
  change Code.wp _ _ _ _ ((w.alloc (.cells (bc (List.replicate 32 0)) 23)).alloc (.cells (bc (List.replicate 32 0)) 23))
  generalize hW : (w.alloc (.cells (bc (List.replicate 32 0)) 23)).alloc (.cells (bc (List.replicate 32 0)) 23) = W at *
  clear hW
  go_region_held3 (fun _ => True) (exact trivial)
    (first
      | (go_at_call 42; refine (unhide Ht _ ?_).mono ?_; (repeat' (first | with_reducible assumption | with_reducible exact Below.refl _ _ | with_reducible refine Below.drew ?_)); rintro e w2 ⟨rfl, ⟨w1, hb1, hp1⟩, r0, r1⟩)
      | (refine step_copy_str rfl (.tmp 4) (.tmp 6) 87 9 rfl 5 Tryd.underlying87 (by kernel_rfl) (w.heap.size + 1) 0 32 32 (by simp [Act.eval, Act.put]) l (by simp [Act.eval, Act.put]) (List.replicate 32 0) 23 r1 l.length (by show _ = min _ _; omega) (by simp; omega) ?_))
  all_goals
    have hnew : List.take 0 (List.replicate 32 (0 : UInt8)) ++ List.take l.length l ++ List.drop (0 + l.length) (List.replicate 32 0) = pad32 l := by
      rw [List.drop_replicate, List.take_zero, List.take_length, Nat.zero_add]; rfl
    rw [hnew]
    have hlen := pad32_length l hl
    generalize hd : pad32 l = d at *
    have Hd := hide hd
    clear hd
    have q1 := setRow_heap w2 (w.heap.size + 1) _ (bc d) _ _ r1
    have q0 : (w2.setRow (w.heap.size + 1) (bc d)).heap[w.heap.size]? = _ := (setRow_other w2 (w.heap.size + 1) w.heap.size (bc d) (by omega)).trans r0
    have hbd : Below w.heap.size w2 (w2.setRow (w.heap.size + 1) (bc d)) := below_setRow (Below.refl _ _) (by omega) _
    generalize w2.setRow (w.heap.size + 1) (bc d) = w3 at *
    have hil : (Tryd.prog.info? 23).map (·.size) = some (bc d).size := by rw [bc_size, hlen]; kernel_rfl
    have hsz2 : (bc (List.replicate 32 (0 : UInt8))).size = (bc d).size := by rw [bc_size, bc_size, hlen]; rfl
    have ho1 := bc_oneCell d
    clear hnew hlen r0 r1
    go_wp2_with (first
      | (refine wpList_load_row rfl 23 (.tmp 3) rfl (w.heap.size + 1) rfl 23 _ (0, 0) _ q1 Tryd.underlying23 rfl hil ?_)
      | (refine wpList_store_row rfl 23 (.tmp 2) (.tmp 8) rfl w.heap.size _ rfl rfl 23 _ q0 hil hsz2 ho1 ?_))
    exact bodyPost_ret (results_cell_row rfl _ _ w.heap.size _ _ _ _ rfl (setRow_heap _ _ _ _ _ _ q0) Tryd.underlying23 rfl hil) rfl ⟨by rw [unhide Hd], w1, w2, hb1, hp1, below_setRow hbd (Nat.le_refl _) _⟩
theorem rdigest_calls (g : Nat) (r : Rd) (hl : r.rest.length ≤ 4611686018427387904) (w : World) (h : RdAt w g r) :
    Calls Tryd.prog 25 #[.pointer (some ⟨g, 0, none⟩)] w fun e w' => e = .returned (.agg (bc (pad32 (r.take 32).1))) ∧ RdAt w' g (r.take 32).2 ∧ Turned g w w' := by
  have hg := h.lt
  refine (rdigest_of _ (r.take 32).1 (r.take_length 32) (fun w1 w2 => RdAt w2 g (r.take 32).2 ∧ Turned g w1 w2) w (fun w1 hb => take_calls g 32 (by decide) r hl w1 (h.below hb)) (fun w1 w2 hp k o hk ho => hp.2.row (by omega) ho)).mono ?_
  rintro e w' ⟨rfl, w1, w2, hb1, ⟨h2, t2⟩, hb3⟩
  refine ⟨rfl, (hb3.block g hg).trans h2, ⟨(hb1.mono (by omega)).trans (t2.below.trans (hb3.mono (by omega))), fun k hk hkg => ?_⟩⟩
  rw [hb3.block k hk, t2.kept k (Nat.lt_of_lt_of_le hk hb1.size) hkg, hb1.block k hk]
theorem rdigest_nil (w : World) :
    Calls Tryd.prog 25 #[.pointer none] w fun e w' => e = .returned (.agg (bc (List.replicate 32 0))) ∧ Below w.heap.size w w' := by
  refine (rdigest_of _ [] (by simp) (fun w1 w2 => w2 = w1) w (fun w1 hb => take_nil 32 (by decide) w1) (fun w1 w2 hp k o hk ho => by rw [hp]; exact ho)).mono ?_
  rintro e w' ⟨rfl, w1, w2, hb1, rfl, hb3⟩
  exact ⟨rfl, hb1.trans hb3⟩
end Go.Proofs.YtmgacpcpnijgdaaDoor

namespace Go.Proofs.YtmgacpcpnijgdaaDoor
open Go.RowKit
set_option linter.unusedSimpArgs false
set_option linter.unusedVariables false

theorem splice_list (l : List UInt8) (s j k : Nat) (hl : l.length = 32 * k) (hs : s = 32 * j) (hj : j < k) :
    (l.take (32 * j) ++ List.replicate (32 * (k - j)) 0).take (j * 32) ++ (l.drop s).take 32 ++ (l.take (32 * j) ++ List.replicate (32 * (k - j)) 0).drop (j * 32 + 32) = l.take (32 * (j + 1)) ++ List.replicate (32 * (k - (j + 1))) 0 := by
  have h1 : (l.take (32 * j)).length = 32 * j := by rw [List.length_take]; omega
  have e1 : (l.take (32 * j) ++ List.replicate (32 * (k - j)) 0).take (j * 32) = l.take (32 * j) := by
    rw [List.take_append_of_le_length (by omega), List.take_of_length_le (by omega)]
  have e2 : (l.take (32 * j) ++ List.replicate (32 * (k - j)) (0 : UInt8)).drop (j * 32 + 32) = List.replicate (32 * (k - (j + 1))) 0 := by
    rw [List.drop_append, h1, List.drop_of_length_le (by omega), List.drop_replicate, List.nil_append]
    congr 1; omega
  rw [e1, e2, hs, show 32 * (j + 1) = 32 * j + 32 by omega, List.take_add]
set_option maxHeartbeats 1000000 in
set_option maxRecDepth 100000 in
theorem rdigests_of (p : Value) (most : Int) (m k : Nat) (hm : m < 4294967296) (l : List UInt8) (hl : l.length = 32 * k) (hk : k ≤ m) (R1 R2 : World → Prop) (w : World)
    (h1 : Calls Tryd.prog 60 #[p, .int .i64 most] w fun e w1 => e = .returned (.int .i64 (m : Int)) ∧ R1 w1)
    (h2 : ∀ w1, R1 w1 → Calls Tryd.prog 42 #[p, .int .i64 ((32 * m : Nat) : Int)] w1 fun e w2 => e = .returned (.string (str l)) ∧ R2 w2) :
    Calls Tryd.prog 44 #[p, .int .i64 most] w fun e w' => ∃ w2, e = .returned (.slice (some ⟨w2.heap.size, 0, none⟩) k k) ∧ R2 w2 ∧ Below w2.heap.size w2 w' ∧ w'.heap[w2.heap.size]? = some (.cells (bc l) 23 (0, 0)) := by
  have H1 := hide h1
  have H2 := hide h2
  have mk := make_digests k (by omega)
  have em : (32 : Int) * (m : Int) = ((32 * m : Nat) : Int) := by omega
  generalize hM : 32 * m = M at *
  have hMb : M < 137438953472 := by omega
  clear h1 h2 hM
  go_enter Tryd.func44, Tryd.ntmps44
  go_wp2_with fail
  refine (unhide H1).mono ?_
  rintro e w1 ⟨rfl, hr1⟩
  go_wp2_with fail
  refine (unhide H2 _ hr1).mono ?_
  rintro e w2 ⟨rfl, hr2⟩
  have eq : (l.length : Int) / 32 = (k : Int) := by omega
  have Hl := hide hl
  clear hl em
  go_wp2
  go_loopw [20] (fun i wr => ∃ j : Nat, j ≤ k ∧ i = .int .i64 (j : Int) ∧ Below w2.heap.size w2 wr ∧ wr.heap[w2.heap.size]? = some (.cells (bc (l.take (32 * j) ++ List.replicate (32 * (k - j)) 0)) 23 (0, 0))) (fun i _ => k - (intOf i).toNat)
  case atStart =>
    refine ⟨0, by omega, rfl, (Below.refl _ _).alloc (Nat.le_refl _) _, ?_⟩
    rw [al1]; simp
  case round =>
    obtain ⟨j, hj, rfl, hb, q⟩ := hrel
    by_cases hlt : j < k
    · have hd : decide (j < k) = true := by simpa using hlt
      have b1 : (j : Int) < (k : Int) := by omega
      have hll := unhide Hl
      have ed := drop_str l (32 * j) _ rfl
      obtain ⟨s, hs, es⟩ : ∃ s : Nat, Hid (32 * j = s) ∧ IntKind.i64.wrap ((32 : Int) * (j : Int)) = (s : Int) := ⟨_, rfl, by rw [wi64 _ (by omega) (by omega)]; omega⟩
      have b2 : (s : Int) ≤ (l.length : Int) := by have := unhide hs; omega
      have b3 : s + 32 ≤ l.length := by have := unhide hs; omega
      rw [unhide hs] at ed
      clear hll mk
      go_wp2
      refine wp_region_still_tail 8 mixed (by kernel_rfl) ?_
      simp only [List.take_succ_cons, List.take_zero, List.drop_succ_cons, List.drop_zero]
      iterate 8 still_step
      refine wpStill_nil ?_
      show wpList _ _ _ _ _ wr.drew
      have hcl : (l.take (32 * j) ++ List.replicate (32 * (k - j)) 0).length = l.length := by
        have := unhide Hl
        rw [List.length_append, List.length_take, List.length_replicate]; omega
      refine wpList_copy_str rfl (.tmp 26) (.tmp 30) 87 9 rfl 5 Tryd.underlying87 (by kernel_rfl) w2.heap.size (j * 32) 32 32 rfl (l.drop s) rfl (l.take (32 * j) ++ List.replicate (32 * (k - j)) 0) 23 q 32 (by show _ = min _ _; rw [List.length_drop]; omega) (by rw [hcl]; have := unhide hs; omega) ?_
      rw [splice_list l s j k (unhide Hl) (unhide hs).symm hlt]
      have hb3 : Below w2.heap.size w2 (wr.drew.setRow w2.heap.size (bc (l.take (32 * (j + 1)) ++ List.replicate (32 * (k - (j + 1))) 0))) := below_setRow hb.drew (Nat.le_refl _) _
      have q3 := setRow_heap wr.drew w2.heap.size _ (bc (l.take (32 * (j + 1)) ++ List.replicate (32 * (k - (j + 1))) 0)) _ _ q
      generalize wr.drew.setRow w2.heap.size (bc (l.take (32 * (j + 1)) ++ List.replicate (32 * (k - (j + 1))) 0)) = w3 at *
      have Q3 := hide q3
      clear hcl q q3 ed b2 b3
      go_wp2
      go_roundw
      case rel => exact ⟨j + 1, by omega, by go_num, hb3, unhide Q3⟩
      case measure => simp [intOf]; omega
    · have hd : decide (j < k) = false := by simpa using hlt
      obtain rfl : j = k := by omega
      have q' : wr.heap[w2.heap.size]? = some (.cells (bc l) 23 (0, 0)) := by
        rw [q, ← unhide Hl, List.take_length]; simp
      have Q' := hide q'
      clear q q' mk
      go_wp2
      go_ret
      exact ⟨w2, rfl, hr2, hb, unhide Q'⟩
end Go.Proofs.YtmgacpcpnijgdaaDoor

namespace Go.Proofs.YtmgacpcpnijgdaaDoor
open Go.RowKit
set_option linter.unusedSimpArgs false
set_option linter.unusedVariables false

/-- A list of digests in memory: their bytes. -/
def Digs (w : World) (v : Value) (l : List UInt8) : Prop :=
  ∃ p n cap, v = .slice p n cap ∧ l.length = 32 * n ∧ (0 < n → ∃ b off, p = some ⟨b, off, none⟩ ∧ b < w.heap.size ∧ Bytes w b off l)
theorem Digs.below {w w' : World} {v : Value} {l : List UInt8} (h : Digs w v l) (hb : Below w.heap.size w w') : Digs w' v l := by
  obtain ⟨p, n, cap, rfl, hl, hp⟩ := h
  refine ⟨p, n, cap, rfl, hl, fun hn => ?_⟩
  obtain ⟨b, off, rfl, hlt, hby⟩ := hp hn
  exact ⟨b, off, rfl, Nat.lt_of_lt_of_le hlt hb.size, hby.below hb hlt⟩
/-- A new row of digests. -/
theorem digs_row {w : World} {b k : Nat} {l : List UInt8} {t : TypeId} (hl : l.length = 32 * k) (h : w.heap[b]? = some (.cells (bc l) t (0, 0))) : Digs w (.slice (some ⟨b, 0, none⟩) k k) l :=
  ⟨_, _, _, rfl, hl, fun _ => ⟨b, 0, rfl, (Array.getElem?_eq_some_iff.1 h).1, fun j hj => by rw [Nat.zero_add, cell_of_row _ _ _ _ _ _ h]; exact bc_at _ _ hj⟩⟩

theorem Rd.take_whole (r : Rd) (n : Nat) : (r.take n).1.length = 0 ∨ (r.take n).1.length = n := by
  unfold Rd.take
  split
  · simp
  · split
    · simp
    · simp; omega
/-- Digests of at most so many: their bytes. -/
def Rd.digests (r : Rd) (most : Int) : List UInt8 × Rd := (r.len most).2.take (32 * (r.len most).1)
theorem Rd.digests_rest (r : Rd) (most : Int) : (r.digests most).2.rest.length ≤ r.rest.length := Nat.le_trans (Rd.take_rest _ _) (r.len_rest most)
theorem rdigests_calls (g : Nat) (r : Rd) (hl : r.rest.length ≤ 4611686018427387904) (most : Int) (w : World) (h : RdAt w g r) :
    Calls Tryd.prog 44 #[.pointer (some ⟨g, 0, none⟩), .int .i64 most] w fun e w' => ∃ b k, e = .returned (.slice (some ⟨b, 0, none⟩) k k) ∧ (r.digests most).1.length = 32 * k ∧ w.heap.size ≤ b ∧ w'.heap[b]? = some (.cells (bc (r.digests most).1) 23 (0, 0)) ∧ RdAt w' g (r.digests most).2 ∧ Turned g w w' := by
  have hm := r.len_lt most
  have hrs := r.len_rest most
  obtain ⟨k, hk, hkm⟩ : ∃ k, (r.digests most).1.length = 32 * k ∧ k ≤ (r.len most).1 := by
    rcases Rd.take_whole (r.len most).2 (32 * (r.len most).1) with h0 | h0
    · exact ⟨0, h0, Nat.zero_le _⟩
    · exact ⟨(r.len most).1, h0, Nat.le_refl _⟩
  refine (rdigests_of _ most (r.len most).1 k hm (r.digests most).1 hk hkm (fun w1 => RdAt w1 g (r.len most).2 ∧ Turned g w w1) (fun w2 => RdAt w2 g (r.digests most).2 ∧ Turned g w w2) w (rlength_calls g r hl most w h) (fun w1 h1 => ?_)).mono ?_
  · refine (take_calls g (32 * (r.len most).1) (by omega) (r.len most).2 (by omega) w1 h1.1).mono ?_
    rintro e w2 ⟨rfl, h2, t2⟩
    exact ⟨rfl, h2, h1.2.trans t2⟩
  · rintro e w' ⟨w2, rfl, ⟨h2, t2⟩, hb, hrow⟩
    exact ⟨w2.heap.size, k, rfl, hk, t2.below.size, hrow, h2.below hb, t2.trans (Turned.of_below hb (Nat.le_of_lt h2.lt))⟩
theorem rdigests_nil (most : Int) (w : World) :
    Calls Tryd.prog 44 #[.pointer none, .int .i64 most] w fun e w' => ∃ b, e = .returned (.slice (some ⟨b, 0, none⟩) 0 0) ∧ Below w.heap.size w w' := by
  refine (rdigests_of _ most 0 0 (by decide) [] rfl (Nat.le_refl _) (fun w1 => Below w.heap.size w w1) (fun w2 => Below w.heap.size w w2) w (rlength_nil most w) (fun w1 h1 => ?_)).mono ?_
  · refine (take_nil 0 (by decide) w1).mono ?_
    rintro e w2 ⟨rfl, rfl⟩
    exact ⟨rfl, h1⟩
  · rintro e w' ⟨w2, rfl, h2, hb, hrow⟩
    exact ⟨w2.heap.size, rfl, h2.trans (hb.mono h2.size)⟩

/-- A signature's cells. -/
def sigCells (i : Int) (a b c : Value) : Array Value := #[.int .i64 i, a, b, c]
def sig0 : Array Value := #[.int .i64 0, .slice none 0 0, .slice none 0 0, .slice none 0 0]
theorem sig_cell {w : World} {G : Nat} {cs : Array Value} {t : TypeId} (h : w.heap[G]? = some (.cells cs t (0, 0))) : (∀ j v, cs[j]? = some v → w.cell? ⟨G, j, none⟩ = some v) ∧ (∀ j, w.frozen? ⟨G, j, none⟩ = false) :=
  ⟨fun j v hv => (cell_of_row _ _ _ _ _ _ h).trans hv, fun j => frozen_of_row _ _ _ _ _ h⟩
theorem set4 (w : World) (g : Nat) (t : TypeId) (z0 z1 z2 z3 v0 v1 v2 v3 : Value) (hg : w.heap[g]? = some (.cells #[z0, z1, z2, z3] t (0, 0))) : ((((w.setCell ⟨g, 0, none⟩ v0).setCell ⟨g, 1, none⟩ v1).setCell ⟨g, 2, none⟩ v2).setCell ⟨g, 3, none⟩ v3).heap[g]? = some (.cells #[v0, v1, v2, v3] t (0, 0)) := by
  have h0 : (w.setCell ⟨g, 0, none⟩ v0).heap[g]? = some (.cells #[v0, z1, z2, z3] t (0, 0)) := heap_setCell_same _ g 0 _ t v0 hg
  have h1 : ((w.setCell ⟨g, 0, none⟩ v0).setCell ⟨g, 1, none⟩ v1).heap[g]? = some (.cells #[v0, v1, z2, z3] t (0, 0)) := heap_setCell_same _ g 1 _ t v1 h0
  have h2 : (((w.setCell ⟨g, 0, none⟩ v0).setCell ⟨g, 1, none⟩ v1).setCell ⟨g, 2, none⟩ v2).heap[g]? = some (.cells #[v0, v1, v2, z3] t (0, 0)) := heap_setCell_same _ g 2 _ t v2 h1
  exact heap_setCell_same _ g 3 _ t v3 h2
set_option maxHeartbeats 1000000 in
set_option maxRecDepth 100000 in
theorem rsig_nil (w : World) :
    Calls Tryd.prog 26 #[.pointer none] w fun e w' => e = .returned (.agg sig0) ∧ Below w.heap.size w w' := by
  have hi : (Tryd.prog.info? 33).map (·.size) = some sig0.size := by kernel_rfl
  go_enter Tryd.func26, Tryd.ntmps26
  go_wp2_with fail
  have q0 := al1 w (.cells sig0 33)
  have b0 := (Below.refl w.heap.size w).alloc (Nat.le_refl _) (.cells sig0 33)
  have z0 : (w.alloc (.cells sig0 33)).heap.size = w.heap.size + 1 := by simp
  refine (rword_nil (w.alloc (.cells sig0 33))).mono ?_
  generalize w.alloc (.cells sig0 33) = W0 at *
  rintro e w1 ⟨rfl, hb1⟩
  have q1 := Below.at hb1 (by omega) q0
  have b1 : Below w.heap.size w w1 := b0.trans (hb1.mono (by omega))
  have z1 := hb1.size
  clear q0 b0 hb1
  go_wp2_with fail
  have g2 := al1 w1 (.cells sig0 33)
  have q2 := (Below.heap_alloc w1 (.cells sig0 33) w.heap.size (by omega)).trans q1
  have b2 := b1.alloc (by omega) (.cells sig0 33)
  have z2 : (w1.alloc (.cells sig0 33)).heap.size = w1.heap.size + 1 := by simp
  refine (rdigests_nil 32 (w1.alloc (.cells sig0 33))).mono ?_
  generalize w1.alloc (.cells sig0 33) = W2 at *
  generalize hG : w1.heap.size = G at *
  rintro e w3 ⟨x1, rfl, hb3⟩
  have g3 := Below.at hb3 (by omega) g2
  have q3 := Below.at hb3 (by omega) q2
  have b3 : Below w.heap.size w w3 := b2.trans (hb3.mono (by omega))
  have z3 := hb3.size
  have c3 := (sig_cell g3).1 1 _ rfl
  have f3 := (sig_cell g3).2 1
  have hGw : w.heap.size < G := by omega
  clear g2 q1 q2 b1 b2 hb3
  go_wp2_with fail
  have g4 := heap_setCell_same w3 G 1 _ _ (.slice (some ⟨x1, 0, none⟩) 0 0) g3
  have q4 := (heap_setCell_other w3 ⟨G, 1, none⟩ w.heap.size (.slice (some ⟨x1, 0, none⟩) 0 0) (by show _ ≠ G; omega)).trans q3
  have b4 := b3.setCell (p := ⟨G, 1, none⟩) (by show _ ≤ G; omega) (.slice (some ⟨x1, 0, none⟩) 0 0)
  have z4 : (w3.setCell ⟨G, 1, none⟩ (.slice (some ⟨x1, 0, none⟩) 0 0)).heap.size = w3.heap.size := World.size_setCell _ _ _
  refine (rdigests_nil 32 (w3.setCell ⟨G, 1, none⟩ (.slice (some ⟨x1, 0, none⟩) 0 0))).mono ?_
  generalize w3.setCell ⟨G, 1, none⟩ (.slice (some ⟨x1, 0, none⟩) 0 0) = W4 at *
  rintro e w5 ⟨x2, rfl, hb5⟩
  have g5 := Below.at hb5 (by omega) g4
  have q5 := Below.at hb5 (by omega) q4
  have b5 : Below w.heap.size w w5 := b4.trans (hb5.mono (by omega))
  have z5 := hb5.size
  have c5 := (sig_cell g5).1 2 _ rfl
  have f5 := (sig_cell g5).2 2
  clear g3 g4 q3 q4 b3 b4 hb5 c3 f3
  go_wp2_with fail
  have g6 := heap_setCell_same w5 G 2 _ _ (.slice (some ⟨x2, 0, none⟩) 0 0) g5
  have q6 := (heap_setCell_other w5 ⟨G, 2, none⟩ w.heap.size (.slice (some ⟨x2, 0, none⟩) 0 0) (by show _ ≠ G; omega)).trans q5
  have b6 := b5.setCell (p := ⟨G, 2, none⟩) (by show _ ≤ G; omega) (.slice (some ⟨x2, 0, none⟩) 0 0)
  have z6 : (w5.setCell ⟨G, 2, none⟩ (.slice (some ⟨x2, 0, none⟩) 0 0)).heap.size = w5.heap.size := World.size_setCell _ _ _
  refine (rdigests_nil 32 (w5.setCell ⟨G, 2, none⟩ (.slice (some ⟨x2, 0, none⟩) 0 0))).mono ?_
  generalize w5.setCell ⟨G, 2, none⟩ (.slice (some ⟨x2, 0, none⟩) 0 0) = W6 at *
  rintro e w7 ⟨x3, rfl, hb7⟩
  have g7 := Below.at hb7 (by omega) g6
  have q7 := Below.at hb7 (by omega) q6
  have b7 : Below w.heap.size w w7 := b6.trans (hb7.mono (by omega))
  have z7 := hb7.size
  have c7 := (sig_cell g7).1 3 _ rfl
  have f7 := (sig_cell g7).2 3
  clear g5 g6 q5 q6 b5 b6 hb7 c5 f5
  go_wp2_with fail
  have q8 := (heap_setCell_other w7 ⟨G, 3, none⟩ w.heap.size (.slice (some ⟨x3, 0, none⟩) 0 0) (by show _ ≠ G; omega)).trans q7
  have b8 := b7.setCell (p := ⟨G, 3, none⟩) (by show _ ≤ G; omega) (.slice (some ⟨x3, 0, none⟩) 0 0)
  refine (failed_nil (w7.setCell ⟨G, 3, none⟩ (.slice (some ⟨x3, 0, none⟩) 0 0))).mono ?_
  generalize w7.setCell ⟨G, 3, none⟩ (.slice (some ⟨x3, 0, none⟩) 0 0) = W8 at *
  rintro e w9 ⟨rfl, rfl⟩
  clear g7 q7 b7 c7 f7
  have c80 := (sig_cell q8).1 0 _ rfl
  have c81 := (sig_cell q8).1 1 _ rfl
  have c82 := (sig_cell q8).1 2 _ rfl
  have c83 := (sig_cell q8).1 3 _ rfl
  have f8 := (sig_cell q8).2
  have Q8 := hide q8
  clear q8
  go_wp2
  exact bodyPost_ret (results_cell_row rfl _ _ w.heap.size _ _ _ _ rfl (set4 _ _ _ _ _ _ _ _ _ _ _ (unhide Q8)) Tryd.underlying33 rfl hi) rfl ⟨rfl, (((b8.setCell (by simp) _).setCell (by simp) _).setCell (by simp) _).setCell (by simp) _⟩
end Go.Proofs.YtmgacpcpnijgdaaDoor

namespace Go.Proofs
open Go.Shelf
def Tryd.lays165_ren : Go.Shelf.Ren := ⟨fun | 165 => 61 | 240 => 63 | 241 => 68 | 276 => 69 | 277 => 73 | n => n, fun | 0 => 0 | 3 => 3 | 4 => 4 | 5 => 5 | 9 => 9 | 20 => 20 | 37 => 87 | 70 => 98 | 72 => 100 | 164 => 130 | n => n, fun | n => n⟩
theorem Tryd.lays165 : Go.Proofs.Lays.n165 Tryd.prog Tryd.lays165_ren := {
  mixed := by kernel_rfl
  f165 := Tryd.func61.trans (congrArg some (by kernel_rfl))
  f240 := Tryd.func63.trans (congrArg some (by kernel_rfl))
  f241 := Tryd.func68.trans (congrArg some (by kernel_rfl))
  f276 := Tryd.func69.trans (congrArg some (by kernel_rfl))
  f277 := Tryd.func73.trans (congrArg some (by kernel_rfl))
  t0 := Tryd.underlying0
  a0 := Tryd.isAgg0
  z0 := Tryd.sizeOf0
  v0 := Tryd.zeroValue0
  t3 := Tryd.underlying3
  a3 := Tryd.isAgg3
  z3 := Tryd.sizeOf3
  v3 := Tryd.zeroValue3
  t4 := Tryd.underlying4
  a4 := Tryd.isAgg4
  z4 := Tryd.sizeOf4
  v4 := Tryd.zeroValue4
  t9 := Tryd.underlying9
  a9 := Tryd.isAgg9
  z9 := Tryd.sizeOf9
  v9 := Tryd.zeroValue9
  t20 := Tryd.underlying20
  a20 := Tryd.isAgg20
  z20 := Tryd.sizeOf20
  v20 := Tryd.zeroValue20
  t37 := Tryd.underlying87
  a37 := Tryd.isAgg87
  z37 := Tryd.sizeOf87
  v37 := Tryd.zeroValue87
  t70 := Tryd.underlying98
  a70 := Tryd.isAgg98
  z70 := Tryd.sizeOf98
  v70 := Tryd.zeroValue98
  t72 := Tryd.underlying100
  a72 := Tryd.isAgg100
  z72 := Tryd.sizeOf100
  v72 := Tryd.zeroValue100
  t164 := Tryd.underlying130
  a164 := Tryd.isAgg130
  z164 := Tryd.sizeOf130
  v164 := Tryd.zeroValue130 }
theorem Tryd.Builder_Extra_165 : Builder.Extra Tryd.prog Tryd.lays165_ren := {
  sizeBuilder := by kernel_rfl
  liesBuilder := by kernel_rfl
  t5 := Tryd.underlying5
  a5 := Tryd.isAgg5
  z5 := Tryd.sizeOf5
  v5 := Tryd.zeroValue5
  infoByte := by kernel_rfl
  cellsByte := by kernel_rfl
  sizeByte := by kernel_rfl
  neB5 := by decide }
namespace YtmgacpcpnijgdaaDoor
open Go.RowKit
theorem grow_fresh (B b n : Nat) (w : World) (hB : B ≤ b) (hbk : w.heap[b]? = some (.cells #[.pointer none, .slice none 0 0] 100 (0, 0))) (hBw : B ≤ w.heap.size) (hn : n ≤ 281474976710656) :
    Calls Tryd.prog 61 #[.pointer (some ⟨b, 0, none⟩), .int .i64 (n : Int)] w fun e w' => e = .returned (.tuple #[]) ∧ (Lib.BuilderAt 100 5 B b (.pointer (some ⟨b, 0, none⟩)) [] w' ∧ Below B w w') :=
  Any.Builder_Grow_fresh Tryd.lays165 Tryd.Builder_Extra_165 B b n w hB hbk hBw hn
end YtmgacpcpnijgdaaDoor
end Go.Proofs

namespace Go.Proofs.YtmgacpcpnijgdaaDoor
open Go.RowKit
set_option linter.unusedSimpArgs false
set_option linter.unusedVariables false

/-- How many, and they. -/
def pDigests (l : List UInt8) : List UInt8 := pBig (l.length / 32) 4 ++ l
set_option maxHeartbeats 1000000 in
set_option maxRecDepth 100000 in
theorem wdigests_calls (v : Value) (l : List UInt8) (hl : l.length ≤ 137438953471) (w : World) (h : Digs w v l) :
    Calls Tryd.prog 47 #[v] w fun e w' => e = .returned (.string (str (pDigests l))) ∧ Below w.heap.size w w' := by
  obtain ⟨p, n, cap, rfl, hn, hp⟩ := h
  have hdiv : l.length / 32 = n := by omega
  have hn32 : n < 4294967296 := by omega
  unfold pDigests
  rw [hdiv]
  have hlen := pBig_length n 4
  have hww := wword_calls n hn32
  generalize pBig n 4 = B at *
  have Hww := hide hww
  have Hp := hide hp
  have Hn := hide hn
  obtain ⟨s, hs, es⟩ : ∃ s : Nat, Hid (4 + 32 * n = s) ∧ IntKind.i64.wrap ((4 : Int) + IntKind.i64.wrap (32 * (n : Int))) = (s : Int) := ⟨_, rfl, by rw [wi64 (32 * (n : Int)) (by omega) (by omega), wi64 _ (by omega) (by omega)]; omega⟩
  have es2 : IntKind.i64.wrap (32 * (n : Int)) = 32 * (n : Int) := wi64 _ (by omega) (by omega)
  have es3 : (4 : Int) + 32 * (n : Int) = (s : Int) := by have := unhide hs; omega
  have hsb : s ≤ 281474976710656 := by have := unhide hs; omega
  clear hww hp hn hdiv
  go_enter Tryd.func47, Tryd.ntmps47
  go_wp2_with fail
  refine (grow_fresh w.heap.size w.heap.size s _ (Nat.le_refl _) (al1 _ _) (by simp) hsb).mono ?_
  rintro e w1 ⟨rfl, hB1, hb1⟩
  have b1 : Below w.heap.size w w1 := ((Below.refl _ w).alloc (Nat.le_refl _) _).trans hb1
  have B1 : Lib.IsBuilderF 100 5 w.heap.size w.heap.size [] w1 := Lib.IsBuilderF.of (.inr hB1)
  have hz1 : w.heap.size < w1.heap.size := (Lib.BuilderAtF.of hB1).lt
  clear hb1 hB1
  go_wp2_with fail
  refine (unhide Hww _).mono ?_
  rintro e w2 ⟨rfl, hb2⟩
  have b2 := b1.trans (hb2.mono b1.size)
  have B2 := isBuilder_below B1 hb2
  have hz2 := hb2.size
  clear b1 B1 hb2
  go_wp2_with fail
  refine (writeString_calls w.heap.size w.heap.size [] (str B) _ B2 (by rw [str_size]; simp; omega) (by omega)).mono ?_
  rintro e w3 ⟨rfl, hB3, hb3, _⟩
  have b3 := b2.trans hb3
  have B3 : Lib.IsBuilderF 100 5 w.heap.size w.heap.size (Lib.byteCells B) w3 := .inr (by
    have e4 : ([] : List Value) ++ Lib.strCells (str B) = Lib.byteCells B := by simp [Lib.strCells, Lib.byteCells, str]
    rw [e4] at hB3; exact hB3)
  have hz3 : w.heap.size < w3.heap.size := hB3.lt
  clear b2 B2 hB3 hb3 hz1 hz2
  go_wp2
  go_loopw [18] (fun i wr => ∃ j : Nat, j ≤ n ∧ i = .int .i64 (j : Int) ∧ Below w.heap.size w wr ∧ Lib.IsBuilderF 100 5 w.heap.size w.heap.size (Lib.byteCells (B ++ l.take (32 * j))) wr) (fun i _ => n - (intOf i).toNat)
  case atStart => exact ⟨0, by omega, rfl, b3, by simpa using B3⟩
  case round =>
    clear b3 B3 hz3
    obtain ⟨j, hj, rfl, hb, hB⟩ := hrel
    have hzr : w.heap.size < wr.heap.size := by
      rcases hB with hB | hB
      · exact hB.lt
      · exact hB.lt
    have hln := unhide Hn
    by_cases hlt : j < n
    · have hd : decide (j < n) = true := by simpa using hlt
      have bk : (j : Int) < (n : Int) := by omega
      obtain ⟨b, off, rfl, hbz, hby⟩ := unhide Hp (by omega)
      obtain ⟨ch, hch, hcl⟩ : ∃ ch : List UInt8, Hid ((l.drop (32 * j)).take 32 = ch) ∧ ch.length = 32 := ⟨_, rfl, by rw [List.length_take, List.length_drop]; omega⟩
      have hr : wr.rangeAt b (off + j * 32) (Lib.byteCells ch) := fun i v hv => by
        have hi : i < 32 := by
          have := (List.getElem?_eq_some_iff.1 hv).1
          rw [Lib.byteCells_length] at this; omega
        have h1 := (hby.below hb hbz) (j * 32 + i) (by omega)
        rw [show off + j * 32 + i = off + (j * 32 + i) by omega, h1]
        have h2 := bc_at ch i (by omega)
        rw [bc, List.getElem?_toArray] at h2
        rw [h2] at hv
        rw [← Option.some.inj hv, ← unhide hch]
        simp [List.getD_eq_getElem?_getD, List.getElem?_take, List.getElem?_drop, hi, Nat.mul_comm]
      have hil : (Tryd.prog.info? 23).map (·.size) = some (Lib.byteCells ch).length := by rw [Lib.byteCells_length, hcl]; kernel_rfl
      have hil2 : (Tryd.prog.info? 23).map (·.size) = some (bc ch).size := by rw [bc_size, hcl]; kernel_rfl
      have hsz2 : (bc (List.replicate 32 (0 : UInt8))).size = (bc ch).size := by rw [bc_size, bc_size, hcl]; rfl
      have ho1 := bc_oneCell ch
      have qn : (wr.alloc (.cells (bc (List.replicate 32 0)) 23)).heap[wr.heap.size]? = some (.cells (bc (List.replicate 32 0)) 23 (0, 0)) := al1 _ _
      have qs := setRow_heap _ _ _ (bc ch) _ _ qn
      clear hln hby hbz
      go_wp2_with (first
        | (refine wpList_load_mid rfl 23 (.tmp 20) rfl b (off + j * 32) rfl (Lib.byteCells ch) _ hr Tryd.underlying23 rfl hil ?_)
        | (refine wpList_store_row rfl 23 (.tmp 5) (.tmp 21) rfl wr.heap.size _ rfl rfl 23 _ qn hil2 hsz2 ho1 ?_)
        | (refine wpList_load_row rfl 23 (.tmp 5) rfl wr.heap.size rfl 23 _ (0, 0) _ qs Tryd.underlying23 rfl hil2 ?_))
      have hbA : Below wr.heap.size wr ((wr.alloc (.cells (bc (List.replicate 32 0)) 23)).setRow wr.heap.size (Lib.byteCells ch).toArray) := below_setRow ((Below.refl _ wr).alloc (Nat.le_refl _) _) (Nat.le_refl _) _
      refine (wdigest_calls ch hcl ((wr.alloc (.cells (bc (List.replicate 32 0)) 23)).setRow wr.heap.size (Lib.byteCells ch).toArray)).mono ?_
      generalize (wr.alloc (.cells (bc (List.replicate 32 0)) 23)).setRow wr.heap.size (Lib.byteCells ch).toArray = W at *
      rintro e w5 ⟨rfl, hb5⟩
      have hb6 : Below wr.heap.size wr w5 := hbA.trans (hb5.mono hbA.size)
      have B6 := isBuilder_below hB hb6
      have hz6 := hb6.size
      clear hbA hb5 hr hil hil2 hsz2 ho1 qn qs hB
      go_wp2_with fail
      refine (writeString_calls w.heap.size w.heap.size _ (str ch) _ B6 (by rw [str_size, Lib.byteCells_length, List.length_append, List.length_take]; omega) (by omega)).mono ?_
      rintro e w7 ⟨rfl, hB7, hb7, _⟩
      have e4 : Lib.byteCells (B ++ l.take (32 * j)) ++ Lib.strCells (str ch) = Lib.byteCells (B ++ l.take (32 * (j + 1))) := by
        rw [show Lib.strCells (str ch) = Lib.byteCells ch by simp [Lib.strCells, Lib.byteCells, str], ← Lib.byteCells_append, List.append_assoc, ← unhide hch, ← List.take_add, show 32 * (j + 1) = 32 * j + 32 by omega]
      rw [e4] at hB7
      clear e4 B6
      go_wp2
      go_roundw
      case rel => exact ⟨j + 1, by omega, by go_num, (hb.trans (hb6.mono (by omega))).trans hb7, .inr hB7⟩
      case measure => simp [intOf]; omega
    · have hd : decide (j < n) = false := by simpa using hlt
      have ht : l.take (32 * j) = l := List.take_of_length_le (by omega)
      rw [ht] at hB
      clear ht hln
      go_wp2_with fail
      refine (string_calls w.heap.size w.heap.size _ _ hB (by omega)).mono ?_
      rintro e w5 ⟨rfl, _, hb5, _⟩
      go_wp2
      go_ret
      exact ⟨rfl, hb.trans hb5⟩
end Go.Proofs.YtmgacpcpnijgdaaDoor

namespace Go.Proofs.YtmgacpcpnijgdaaDoor
open Go.RowKit
set_option linter.unusedSimpArgs false
set_option linter.unusedVariables false

/-- A signature's bytes. -/
def pSig (i : Int) (a b c : List UInt8) : List UInt8 := pBig (i % 4294967296).toNat 4 ++ pDigests a ++ pDigests b ++ pDigests c
theorem pDigests_length (l : List UInt8) : (pDigests l).length = 4 + l.length := by rw [pDigests, List.length_append, pBig_length]
set_option maxHeartbeats 2000000 in
set_option maxRecDepth 100000 in
theorem wsig_calls (i : Int) (v1 v2 v3 : Value) (l1 l2 l3 : List UInt8) (h1 : l1.length ≤ 137438953471) (h2 : l2.length ≤ 137438953471) (h3 : l3.length ≤ 137438953471) (w : World) (d1 : Digs w v1 l1) (d2 : Digs w v2 l2) (d3 : Digs w v3 l3) :
    Calls Tryd.prog 30 #[.agg #[.int .i64 i, v1, v2, v3]] w fun e w' => e = .returned (.string (str (pSig i l1 l2 l3))) ∧ Below w.heap.size w w' := by
  unfold pSig
  have hb0 := (Below.refl w.heap.size w).alloc (Nat.le_refl _) (.cells #[.int .i64 i, v1, v2, v3] 33)
  have q0 := al1 w (.cells #[.int .i64 i, v1, v2, v3] 33)
  have e1 := d1.below hb0
  have e2 := d2.below hb0
  have e3 := d3.below hb0
  have L1 := pDigests_length l1
  have L2 := pDigests_length l2
  have L3 := pDigests_length l3
  have hmod : (i % 4294967296).toNat < 4294967296 := by omega
  have hmi : ((i % 4294967296).toNat : Int) = i % 4294967296 := by omega
  have wwc := fun w => wword_calls (i % 4294967296).toNat hmod w
  rw [hmi] at wwc
  have L0 := pBig_length (i % 4294967296).toNat 4
  generalize hP0 : pBig (i % 4294967296).toNat 4 = P0 at *
  have h1c : ∀ w', Below w.heap.size w w' → Calls Tryd.prog 47 #[v1] w' fun e w'' => e = .returned (.string (str (pDigests l1))) ∧ Below w'.heap.size w' w'' := fun w' hb => wdigests_calls v1 l1 h1 w' (d1.below hb)
  have h2c : ∀ w', Below w.heap.size w w' → Calls Tryd.prog 47 #[v2] w' fun e w'' => e = .returned (.string (str (pDigests l2))) ∧ Below w'.heap.size w' w'' := fun w' hb => wdigests_calls v2 l2 h2 w' (d2.below hb)
  have h3c : ∀ w', Below w.heap.size w w' → Calls Tryd.prog 47 #[v3] w' fun e w'' => e = .returned (.string (str (pDigests l3))) ∧ Below w'.heap.size w' w'' := fun w' hb => wdigests_calls v3 l3 h3 w' (d3.below hb)
  generalize pDigests l1 = P1 at *
  generalize pDigests l2 = P2 at *
  generalize pDigests l3 = P3 at *
  have a1 := append_str P0 P1
  have a2 : str (P0 ++ P1) ++ str P2 = str (P0 ++ (P1 ++ P2)) := by rw [append_str, List.append_assoc]
  have a3 : str (P0 ++ (P1 ++ P2)) ++ str P3 = str (P0 ++ (P1 ++ (P2 ++ P3))) := by rw [append_str]; simp
  have n1 : ¬ 9223372036854775807 < P0.length + P1.length := by omega
  have n2 : ¬ 9223372036854775807 < P0.length + P1.length + P2.length := by omega
  have n3 : ¬ 9223372036854775807 < P0.length + P1.length + P2.length + P3.length := by omega
  have n3' : ¬ 9223372036854775807 < P0.length + (P1.length + P2.length) + P3.length := by omega
  generalize hX : w.alloc (.cells #[.int .i64 i, v1, v2, v3] 33) = X at *
  have hrg : ∀ d os, Below w.heap.size w (Sort.grow (redrawn X d) os) := fun d os => hb0.trans ((below_regrown X d os).mono hb0.size)
  have hzX : w.heap.size < X.heap.size := (Array.getElem?_eq_some_iff.1 q0).1
  have cg : ∀ j v, (#[Value.int .i64 i, v1, v2, v3] : Array Value)[j]? = some v → ∀ d os, (Sort.grow (redrawn X d) os).cell? ⟨w.heap.size, j, none⟩ = some v := fun j v hv d os => by
    rw [(below_regrown X d os).cell (p := ⟨w.heap.size, j, none⟩) hzX]; exact (sig_cell q0).1 j v hv
  have c0 : ∀ d os, (Sort.grow (redrawn X d) os).cell? ⟨w.heap.size, 0, none⟩ = some (.int .i64 i) := cg 0 _ rfl
  have c1 : ∀ d os, (Sort.grow (redrawn X d) os).cell? ⟨w.heap.size, 1, none⟩ = some v1 := cg 1 _ rfl
  have c2 : ∀ d os, (Sort.grow (redrawn X d) os).cell? ⟨w.heap.size, 2, none⟩ = some v2 := cg 2 _ rfl
  have c3 : ∀ d os, (Sort.grow (redrawn X d) os).cell? ⟨w.heap.size, 3, none⟩ = some v3 := cg 3 _ rfl
  have k0 : Hid (∀ d os, Calls Tryd.prog 28 #[.int .u32 (i % 4294967296)] (Sort.grow (redrawn X d) os) fun e w'' => e = .returned (.string (str P0)) ∧ ∃ p : Regrown, w'' = Sort.grow (redrawn X p.d) p.os) := fun d os => Calls.regrown_of (wwc _)
  have k1 : Hid (∀ d os, Calls Tryd.prog 47 #[v1] (Sort.grow (redrawn X d) os) fun e w'' => e = .returned (.string (str P1)) ∧ ∃ p : Regrown, w'' = Sort.grow (redrawn X p.d) p.os) := fun d os => Calls.regrown_of (h1c _ (hrg d os))
  have k2 : Hid (∀ d os, Calls Tryd.prog 47 #[v2] (Sort.grow (redrawn X d) os) fun e w'' => e = .returned (.string (str P2)) ∧ ∃ p : Regrown, w'' = Sort.grow (redrawn X p.d) p.os) := fun d os => Calls.regrown_of (h2c _ (hrg d os))
  have k3 : Hid (∀ d os, Calls Tryd.prog 47 #[v3] (Sort.grow (redrawn X d) os) fun e w'' => e = .returned (.string (str P3)) ∧ ∃ p : Regrown, w'' = Sort.grow (redrawn X p.d) p.os) := fun d os => Calls.regrown_of (h3c _ (hrg d os))
  have HX := hide hX
  clear cg hX wwc h1c h2c h3c hrg e1 e2 e3 d1 d2 d3 L0 L1 L2 L3 hmi hmod hP0 h1 h2 h3 q0
  go_enter Tryd.func30, Tryd.ntmps30
  go_wp2_with fail
  rw [unhide HX]
  refine wp_region_below mixed (by kernel_rfl) ?_
  quiet_step (fail)
  quiet_step (fail)
  quiet_step (fail)
  quiet_step (exact unhide k0 _ _)
  quiet_step (fail)
  quiet_step (fail)
  quiet_step (exact unhide k1 _ _)
  quiet_step (fail)
  quiet_step (fail)
  quiet_step (fail)
  quiet_step (exact unhide k2 _ _)
  quiet_step (fail)
  quiet_step (fail)
  quiet_step (fail)
  quiet_step (exact unhide k3 _ _)
  repeat (quiet_step (fail))
  refine wpQuiet_nil ?_
  intro w3 hb3
  go_wp2
  go_ret
  exact ⟨by simp only [List.append_assoc]; rfl, hb0.trans (hb3.mono hb0.size)⟩
end Go.Proofs.YtmgacpcpnijgdaaDoor

namespace Go.Proofs.YtmgacpcpnijgdaaDoor
open Go Go.RowKit
set_option linter.unusedSimpArgs false
set_option linter.unusedVariables false

def pUpd (home : Nat) (a b : List UInt8) (i : Int) (l1 l2 l3 : List UInt8) : List UInt8 := pBig home 4 ++ (a ++ (b ++ pSig i l1 l2 l3))
def pStop (home : Nat) (a : List UInt8) (x : Int) (i : Int) (l1 l2 l3 : List UInt8) : List UInt8 := pBig home 4 ++ (a ++ (pBig (x % 4294967296).toNat 4 ++ pSig i l1 l2 l3))
theorem pSig_len (i : Int) (l1 l2 l3 : List UInt8) : (pSig i l1 l2 l3).length = 16 + l1.length + l2.length + l3.length := by
  simp only [pSig, pDigests, List.length_append, pBig_length]; omega
set_option maxHeartbeats 4000000 in
set_option maxRecDepth 100000 in
theorem ubytes_calls (home : Nat) (hh : home < 4294967296) (a b : List UInt8) (ha : a.length = 32) (hb : b.length = 32) (i : Int) (v1 v2 v3 : Value) (l1 l2 l3 : List UInt8) (h1 : l1.length ≤ 137438953471) (h2 : l2.length ≤ 137438953471) (h3 : l3.length ≤ 137438953471) (w : World) (d1 : Digs w v1 l1) (d2 : Digs w v2 l2) (d3 : Digs w v3 l3) :
    Calls Tryd.prog 10 #[.agg (updc home a b #[.int .i64 i, v1, v2, v3])] w fun e w' => e = .returned (.string (str (pUpd home a b i l1 l2 l3))) ∧ Below w.heap.size w w' := by
  unfold pUpd
  have hb0 := (Below.refl w.heap.size w).alloc (Nat.le_refl _) (.cells (updc home a b #[.int .i64 i, v1, v2, v3]) 35)
  have q0 := al1 w (.cells (updc home a b #[.int .i64 i, v1, v2, v3]) 35)
  obtain ⟨X, hX⟩ : ∃ X, w.alloc (.cells (updc home a b #[.int .i64 i, v1, v2, v3]) 35) = X := ⟨_, rfl⟩
  rw [hX] at hb0 q0
  have HX := hide hX
  have zX := (Array.getElem?_eq_some_iff.1 q0).1
  have R1 : ∀ w' : World, (∃ p : Regrown, w' = Sort.grow (redrawn X p.d) p.os) → w'.heap[w.heap.size]? = some (.cells (updc home a b #[.int .i64 i, v1, v2, v3]) 35 (0, 0)) := fun w' ⟨p, hp⟩ => by rw [hp]; exact Below.at (below_regrown X p.d p.os) zX q0
  have RA : Hid (∀ w', (∃ p : Regrown, w' = Sort.grow (redrawn X p.d) p.os) → w'.rangeAt w.heap.size 1 (Lib.byteCells a)) := hide fun w' hp => updc_old home a b ha hb _ w' _ _ (R1 w' hp)
  have RB : Hid (∀ w', (∃ p : Regrown, w' = Sort.grow (redrawn X p.d) p.os) → w'.rangeAt w.heap.size 33 (Lib.byteCells b)) := hide fun w' hp => updc_new home a b ha hb _ w' _ _ (R1 w' hp)
  have RS : Hid (∀ w', (∃ p : Regrown, w' = Sort.grow (redrawn X p.d) p.os) → w'.rangeAt w.heap.size 65 [.int .i64 i, v1, v2, v3]) := hide fun w' hp => updc_sig home a b ha hb #[.int .i64 i, v1, v2, v3] rfl w' _ _ (R1 w' hp)
  have c0 : ∀ d os, (Sort.grow (redrawn X d) os).cell? ⟨w.heap.size, 0, none⟩ = some (.int .u32 (home : Int)) := fun d os => by
    rw [cell_of_row _ _ _ _ _ _ (R1 _ ⟨⟨d, os⟩, rfl⟩)]; exact updc_home home a b _
  have k1 := hide fun d os => Calls.regrown_of (w := X) (d := d) (os := os) (wword_calls home hh _)
  have k2 := hide fun d os => Calls.regrown_of (w := X) (d := d) (os := os) (wdigest_calls a ha _)
  have k3 := hide fun d os => Calls.regrown_of (w := X) (d := d) (os := os) (wdigest_calls b hb _)
  have k4 := hide fun d os => Calls.regrown_of (w := X) (d := d) (os := os) (wsig_calls i v1 v2 v3 l1 l2 l3 h1 h2 h3 _ (d1.below (hb0.trans ((below_regrown X d os).mono hb0.size))) (d2.below (hb0.trans ((below_regrown X d os).mono hb0.size))) (d3.below (hb0.trans ((below_regrown X d os).mono hb0.size))))
  have L1 := pBig_length home 4
  have L4 := pSig_len i l1 l2 l3
  generalize pBig home 4 = P1 at *
  generalize pSig i l1 l2 l3 = P4 at *
  have a1 := append_str P1 a
  have a2 : str (P1 ++ a) ++ str b = str (P1 ++ (a ++ b)) := by rw [append_str]; simp
  have a3 : str (P1 ++ (a ++ b)) ++ str P4 = str (P1 ++ (a ++ (b ++ P4))) := by rw [append_str]; simp
  have n1 : ¬ 9223372036854775807 < P1.length + a.length := by omega
  have n2 : ¬ 9223372036854775807 < P1.length + a.length + b.length := by omega
  have n3 : ¬ 9223372036854775807 < P1.length + (a.length + b.length) + P4.length := by omega
  have Ha := hide ha
  have Hb := hide hb
  obtain ⟨ROW, hROW⟩ : ∃ R, updc home a b #[.int .i64 i, v1, v2, v3] = R := ⟨_, rfl⟩
  rw [hROW] at HX ⊢
  clear R1 q0 zX hX ha d1 d2 d3 h1 h2 h3 L1 L4 hROW hb
  go_enter Tryd.func10, Tryd.ntmps10
  go_wp2_with (rw [unhide HX])
  refine wp_region_below mixed (by kernel_rfl) ?_
  quiet_step (fail)
  quiet_step (fail)
  quiet_step (exact unhide k1 _ _)
  quiet_step (fail)
  refine wpQuiet_load_mid rfl 23 (.tmp 6) rfl w.heap.size 1 rfl (Lib.byteCells a) _ (unhide RA) Tryd.underlying23 rfl (by rw [Lib.byteCells_length, unhide Ha]; kernel_rfl) ?_
  quiet_step (exact unhide k2 _ _)
  quiet_step (fail)
  quiet_step (fail)
  refine wpQuiet_load_mid rfl 23 (.tmp 10) rfl w.heap.size 33 rfl (Lib.byteCells b) _ (unhide RB) Tryd.underlying23 rfl (by rw [Lib.byteCells_length, unhide Hb]; kernel_rfl) ?_
  quiet_step (exact unhide k3 _ _)
  quiet_step (fail)
  quiet_step (fail)
  refine wpQuiet_load_mid rfl 33 (.tmp 14) rfl w.heap.size 65 rfl [.int .i64 i, v1, v2, v3] _ (unhide RS) Tryd.underlying33 rfl (by kernel_rfl) ?_
  quiet_step (exact unhide k4 _ _)
  repeat (quiet_step (fail))
  refine wpQuiet_nil ?_
  intro w3 hb3
  go_wp2
  go_ret
  exact ⟨rfl, hb0.trans (hb3.mono hb0.size)⟩
set_option maxHeartbeats 4000000 in
set_option maxRecDepth 100000 in
theorem sbytes_calls (home : Nat) (hh : home < 4294967296) (a : List UInt8) (ha : a.length = 32) (x : Int) (i : Int) (v1 v2 v3 : Value) (l1 l2 l3 : List UInt8) (h1 : l1.length ≤ 137438953471) (h2 : l2.length ≤ 137438953471) (h3 : l3.length ≤ 137438953471) (w : World) (d1 : Digs w v1 l1) (d2 : Digs w v2 l2) (d3 : Digs w v3 l3) :
    Calls Tryd.prog 12 #[.agg (stopc home a x #[.int .i64 i, v1, v2, v3])] w fun e w' => e = .returned (.string (str (pStop home a x i l1 l2 l3))) ∧ Below w.heap.size w w' := by
  unfold pStop
  have hb0 := (Below.refl w.heap.size w).alloc (Nat.le_refl _) (.cells (stopc home a x #[.int .i64 i, v1, v2, v3]) 40)
  have q0 := al1 w (.cells (stopc home a x #[.int .i64 i, v1, v2, v3]) 40)
  obtain ⟨X, hX⟩ : ∃ X, w.alloc (.cells (stopc home a x #[.int .i64 i, v1, v2, v3]) 40) = X := ⟨_, rfl⟩
  rw [hX] at hb0 q0
  have HX := hide hX
  have zX := (Array.getElem?_eq_some_iff.1 q0).1
  have R1 : ∀ w' : World, (∃ p : Regrown, w' = Sort.grow (redrawn X p.d) p.os) → w'.heap[w.heap.size]? = some (.cells (stopc home a x #[.int .i64 i, v1, v2, v3]) 40 (0, 0)) := fun w' ⟨p, hp⟩ => by rw [hp]; exact Below.at (below_regrown X p.d p.os) zX q0
  have RA : Hid (∀ w', (∃ p : Regrown, w' = Sort.grow (redrawn X p.d) p.os) → w'.rangeAt w.heap.size 1 (Lib.byteCells a)) := hide fun w' hp => stopc_key home a ha x _ w' _ _ (R1 w' hp)
  have RS : Hid (∀ w', (∃ p : Regrown, w' = Sort.grow (redrawn X p.d) p.os) → w'.rangeAt w.heap.size 34 [.int .i64 i, v1, v2, v3]) := hide fun w' hp => stopc_sig home a ha x #[.int .i64 i, v1, v2, v3] rfl w' _ _ (R1 w' hp)
  have c0 : ∀ d os, (Sort.grow (redrawn X d) os).cell? ⟨w.heap.size, 0, none⟩ = some (.int .u32 (home : Int)) := fun d os => by
    rw [cell_of_row _ _ _ _ _ _ (R1 _ ⟨⟨d, os⟩, rfl⟩)]; exact stopc_home home a x _
  have c33 : ∀ d os, (Sort.grow (redrawn X d) os).cell? ⟨w.heap.size, 33, none⟩ = some (.int .i64 x) := fun d os => by
    rw [cell_of_row _ _ _ _ _ _ (R1 _ ⟨⟨d, os⟩, rfl⟩)]; exact stopc_who home a ha x _
  have k1 := hide fun d os => Calls.regrown_of (w := X) (d := d) (os := os) (wword_calls home hh _)
  have k2 := hide fun d os => Calls.regrown_of (w := X) (d := d) (os := os) (wdigest_calls a ha _)
  have hx0 : 0 ≤ x % 4294967296 := Int.emod_nonneg _ (by decide)
  have hx1 : x % 4294967296 < 4294967296 := Int.emod_lt_of_pos _ (by decide)
  have k3 := fun d os => Calls.regrown_of (w := X) (d := d) (os := os) (wword_calls (x % 4294967296).toNat (by omega) _)
  rw [Int.toNat_of_nonneg hx0] at k3
  have k3 := hide k3
  have k4 := hide fun d os => Calls.regrown_of (w := X) (d := d) (os := os) (wsig_calls i v1 v2 v3 l1 l2 l3 h1 h2 h3 _ (d1.below (hb0.trans ((below_regrown X d os).mono hb0.size))) (d2.below (hb0.trans ((below_regrown X d os).mono hb0.size))) (d3.below (hb0.trans ((below_regrown X d os).mono hb0.size))))
  have L1 := pBig_length home 4
  have L4 := pSig_len i l1 l2 l3
  have L3 := pBig_length (x % 4294967296).toNat 4
  generalize pBig (x % 4294967296).toNat 4 = P3 at *
  generalize pBig home 4 = P1 at *
  generalize pSig i l1 l2 l3 = P4 at *
  have a1 := append_str P1 a
  have a2 : str (P1 ++ a) ++ str P3 = str (P1 ++ (a ++ P3)) := by rw [append_str]; simp
  have a3 : str (P1 ++ (a ++ P3)) ++ str P4 = str (P1 ++ (a ++ (P3 ++ P4))) := by rw [append_str]; simp
  have n1 : ¬ 9223372036854775807 < P1.length + a.length := by omega
  have n2 : ¬ 9223372036854775807 < P1.length + a.length + P3.length := by omega
  have n3 : ¬ 9223372036854775807 < P1.length + (a.length + P3.length) + P4.length := by omega
  have Ha := hide ha
  obtain ⟨ROW, hROW⟩ : ∃ R, stopc home a x #[.int .i64 i, v1, v2, v3] = R := ⟨_, rfl⟩
  rw [hROW] at HX ⊢
  clear R1 q0 zX hX ha d1 d2 d3 h1 h2 h3 L1 L4 hROW L3 hx0 hx1
  go_enter Tryd.func12, Tryd.ntmps12
  go_wp2_with (rw [unhide HX])
  refine wp_region_below mixed (by kernel_rfl) ?_
  quiet_step (fail)
  quiet_step (fail)
  quiet_step (exact unhide k1 _ _)
  quiet_step (fail)
  refine wpQuiet_load_mid rfl 23 (.tmp 6) rfl w.heap.size 1 rfl (Lib.byteCells a) _ (unhide RA) Tryd.underlying23 rfl (by rw [Lib.byteCells_length, unhide Ha]; kernel_rfl) ?_
  quiet_step (exact unhide k2 _ _)
  quiet_step (fail)
  quiet_step (fail)
  quiet_step (fail)
  quiet_step (fail)
  quiet_step (exact unhide k3 _ _)
  quiet_step (fail)
  quiet_step (fail)
  refine wpQuiet_load_mid rfl 33 (.tmp 15) rfl w.heap.size 34 rfl [.int .i64 i, v1, v2, v3] _ (unhide RS) Tryd.underlying33 rfl (by kernel_rfl) ?_
  quiet_step (exact unhide k4 _ _)
  repeat (quiet_step (fail))
  refine wpQuiet_nil ?_
  intro w3 hb3
  go_wp2
  go_ret
  exact ⟨rfl, hb0.trans (hb3.mono hb0.size)⟩
end Go.Proofs.YtmgacpcpnijgdaaDoor
