/-
  WHAT A READER's SMALL CALLS DO: Left, Fail, failed, End, take; a reader as a cell of memory; what else lies there stays.
-/
import Derived.Test.YtlanplknendmaaaWireNum
namespace Go.Proofs.Ytlanplknendmaaa
open Go.RowKit
set_option linter.unusedSimpArgs false
set_option linter.unusedVariables false

/-- All that lay there but one block lies as it lay. -/
structure Turned (g : Nat) (w w' : World) : Prop where
  below : Below g w w'
  kept : ∀ k, k < w.heap.size → k ≠ g → w'.heap[k]? = w.heap[k]?
theorem Turned.refl (g : Nat) (w : World) : Turned g w w := ⟨Below.refl _ _, fun _ _ _ => rfl⟩
theorem Turned.trans {g : Nat} {a b c : World} (h : Turned g a b) (k : Turned g b c) : Turned g a c :=
  ⟨h.below.trans k.below, fun i hi hg => (k.kept i (Nat.lt_of_lt_of_le hi h.below.size) hg).trans (h.kept i hi hg)⟩
theorem Turned.of_below {g : Nat} {w w' : World} (h : Below w.heap.size w w') (hg : g ≤ w.heap.size) : Turned g w w' :=
  ⟨h.mono hg, fun k hk _ => h.block k hk⟩
theorem Turned.setCell {g o : Nat} {w w' : World} (h : Turned g w w') (v : Value) : Turned g w (w'.setCell ⟨g, o, none⟩ v) :=
  ⟨h.below.setCell (by simp) _, fun k hk hg => by rw [heap_setCell_other _ _ _ _ (by show k ≠ g; exact hg)]; exact h.kept k hk hg⟩
theorem Turned.row {g k : Nat} {w w' : World} (h : Turned g w w') {o : Obj} (hg : k ≠ g) (ho : w.heap[k]? = some o) : w'.heap[k]? = some o :=
  (h.kept k (Array.getElem?_eq_some_iff.1 ho).1 hg).trans ho
/-- Behind a reader of the call's own, all that lay ahead of it lies. -/
theorem Turned.under {g B : Nat} {w0 w w' : World} (h : Turned g w w') (h0 : Below B w0 w) (hB : B ≤ g) : Below B w0 w' := h0.trans (h.below.mono hB)

/-- A reader: what is left, what is wrong. -/
structure Rd where
  (rest : List UInt8) (err : Int)
def Rd.cells (r : Rd) : Array Value := #[.string (str r.rest), .int .i64 r.err]
def RdAt (w : World) (g : Nat) (r : Rd) : Prop := w.heap[g]? = some (.cells r.cells 77 (0, 0))
theorem RdAt.lt {w : World} {g : Nat} {r : Rd} (h : RdAt w g r) : g < w.heap.size := (Array.getElem?_eq_some_iff.1 h).1
theorem RdAt.below {w w' : World} {g : Nat} {r : Rd} (h : RdAt w g r) (hb : Below w.heap.size w w') : RdAt w' g r := (hb.block g h.lt).trans h
theorem RdAt.c0 {w : World} {g : Nat} {r : Rd} (h : RdAt w g r) : w.cell? ⟨g, 0, none⟩ = some (.string (str r.rest)) := cell_of_row _ _ _ _ _ _ h
theorem RdAt.c1 {w : World} {g : Nat} {r : Rd} (h : RdAt w g r) : w.cell? ⟨g, 1, none⟩ = some (.int .i64 r.err) := cell_of_row _ _ _ _ _ _ h
theorem RdAt.f0 {w : World} {g : Nat} {r : Rd} (h : RdAt w g r) (o : Nat) : w.frozen? ⟨g, o, none⟩ = false := frozen_of_row _ _ _ _ _ h
theorem RdAt.set1 {w : World} {g : Nat} {r : Rd} (h : RdAt w g r) (e : Int) : RdAt (w.setCell ⟨g, 1, none⟩ (.int .i64 e)) g ⟨r.rest, e⟩ := heap_setCell_same _ _ _ _ _ _ h
theorem RdAt.set0 {w : World} {g : Nat} {r : Rd} (h : RdAt w g r) (l : List UInt8) : RdAt (w.setCell ⟨g, 0, none⟩ (.string (str l))) g ⟨l, r.err⟩ := heap_setCell_same _ _ _ _ _ _ h

def Rd.fail (r : Rd) (e : Int) : Rd := if r.err = 0 then ⟨r.rest, e⟩ else r
/-- A part of so many bytes, and the reader behind it. -/
def Rd.take (r : Rd) (n : Nat) : List UInt8 × Rd :=
  if r.err ≠ 0 then ([], r) else if r.rest.length < n then ([], ⟨r.rest, 3⟩) else (r.rest.take n, ⟨r.rest.drop n, 0⟩)

theorem left_calls (g : Nat) (r : Rd) (w : World) (h : RdAt w g r) :
    Calls Try.prog 63 #[.pointer (some ⟨g, 0, none⟩)] w fun e w' => e = .returned (.int .i64 (r.rest.length : Int)) ∧ w' = w := by
  have c0 := h.c0
  clear h
  go_enter Try.func63, Try.ntmps63
  go_wp2
  go_ret
  exact ⟨rfl, rfl⟩
theorem left_nil (w : World) :
    Calls Try.prog 63 #[.pointer none] w fun e w' => e = .returned (.int .i64 0) ∧ w' = w := by
  go_enter Try.func63, Try.ntmps63
  go_wp2
  go_ret
  exact ⟨rfl, rfl⟩
theorem failed_calls (g : Nat) (r : Rd) (w : World) (h : RdAt w g r) :
    Calls Try.prog 64 #[.pointer (some ⟨g, 0, none⟩)] w fun e w' => e = .returned (.bool (r.err != 0)) ∧ w' = w := by
  have c1 := h.c1
  clear h
  go_enter Try.func64, Try.ntmps64
  go_wp2
  go_ret
  exact ⟨rfl, rfl⟩
theorem failed_nil (w : World) :
    Calls Try.prog 64 #[.pointer none] w fun e w' => e = .returned (.bool true) ∧ w' = w := by
  go_enter Try.func64, Try.ntmps64
  go_wp2
  go_ret
  exact ⟨rfl, rfl⟩
theorem fail_calls (g : Nat) (r : Rd) (k : Int) (w : World) (h : RdAt w g r) :
    Calls Try.prog 50 #[.pointer (some ⟨g, 0, none⟩), .int .i64 k] w fun e w' => e = .returned (.tuple #[]) ∧ RdAt w' g (r.fail k) ∧ Turned g w w' := by
  have c1 := h.c1
  have f1 := h.f0 1
  by_cases h0 : r.err = 0
  · have e1 : (r.err == 0) = true := by simpa using h0
    have hr : r.fail k = ⟨r.rest, k⟩ := by rw [Rd.fail, if_pos h0]
    have H := hide h
    rw [hr]
    generalize r.err = re at *
    clear h0 h hr
    go_enter Try.func50, Try.ntmps50
    go_wp2
    go_end0
    exact ⟨rfl, (unhide H).set1 k, (Turned.refl _ _).setCell _⟩
  · have e1 : (r.err == 0) = false := by simpa using h0
    have hr : r.fail k = r := by rw [Rd.fail, if_neg h0]
    have H := hide h
    rw [hr]
    clear h0 h hr
    go_enter Try.func50, Try.ntmps50
    go_wp2
    go_end0
    exact ⟨rfl, unhide H, Turned.refl _ _⟩
theorem fail_nil (k : Int) (w : World) :
    Calls Try.prog 50 #[.pointer none, .int .i64 k] w fun e w' => e = .returned (.tuple #[]) ∧ w' = w := by
  go_enter Try.func50, Try.ntmps50
  go_wp2
  go_end0
  exact ⟨rfl, rfl⟩
def Rd.end' (r : Rd) : Int := if r.err ≠ 0 then r.err else if r.rest ≠ [] then 4 else 0
theorem end_nil (w : World) :
    Calls Try.prog 29 #[.pointer none] w fun e w' => e = .returned (.int .i64 1) ∧ w' = w := by
  go_enter Try.func29, Try.ntmps29
  go_wp2
  go_ret
  exact ⟨rfl, rfl⟩
theorem take_nil (n : Nat) (hn : n ≤ 9223372036854775807) (w : World) :
    Calls Try.prog 59 #[.pointer none, .int .i64 (n : Int)] w fun e w' => e = .returned (.string (str [])) ∧ w' = w := by
  cases hd : decide (0 < n) with
  | true =>
    go_enter Try.func59, Try.ntmps59
    go_wp2_with fail
    refine (left_nil _).mono ?_
    rintro e w' ⟨rfl, rfl⟩
    go_wp2_with fail
    refine (fail_nil _ _).mono ?_
    rintro e w' ⟨rfl, rfl⟩
    go_wp2_with fail
    refine (failed_nil _).mono ?_
    rintro e w' ⟨rfl, rfl⟩
    go_wp2
    go_ret
    exact ⟨rfl, rfl⟩
  | false =>
    go_enter Try.func59, Try.ntmps59
    go_wp2_with fail
    refine (left_nil _).mono ?_
    rintro e w' ⟨rfl, rfl⟩
    go_wp2_with fail
    refine (failed_nil _).mono ?_
    rintro e w' ⟨rfl, rfl⟩
    go_wp2
    go_ret
    exact ⟨rfl, rfl⟩
theorem rdend_calls (g : Nat) (r : Rd) (w : World) (h : RdAt w g r) :
    Calls Try.prog 29 #[.pointer (some ⟨g, 0, none⟩)] w fun e w' => e = .returned (.int .i64 r.end') ∧ w' = w := by
  have c0 := h.c0
  have c1 := h.c1
  clear h
  by_cases h0 : r.err = 0
  · have e1 : (r.err != 0) = false := by simpa using h0
    by_cases h1 : r.rest = []
    · have hr : r.end' = 0 := by simp [Rd.end', h0, h1]
      rw [hr]
      rw [h1, show str [] = (⟨#[]⟩ : ByteArray) from rfl] at c0
      generalize r.err = re at *
      clear hr h0 h1
      go_enter Try.func29, Try.ntmps29
      go_wp2
      go_ret
      exact ⟨rfl, rfl⟩
    · have hr : r.end' = 4 := by simp [Rd.end', h0, h1]
      have hne : (str r.rest).toList.isEmpty = false := by rw [ByteArray.toList_eq, str_toList]; cases hl : r.rest with | nil => exact absurd hl h1 | cons _ _ => rfl
      rw [hr]
      generalize r.err = re at *
      clear hr h0 h1
      go_enter Try.func29, Try.ntmps29
      go_wp2
      go_ret
      exact ⟨rfl, rfl⟩
  · have e1 : (r.err != 0) = true := by simpa using h0
    have hr : r.end' = r.err := by simp [Rd.end', h0]
    rw [hr]
    clear hr h0
    go_enter Try.func29, Try.ntmps29
    go_wp2
    go_ret
    exact ⟨rfl, rfl⟩
set_option maxHeartbeats 1000000 in
theorem take_calls (g n : Nat) (hn : n ≤ 4611686018427387904) (r : Rd) (hl : r.rest.length ≤ 4611686018427387904) (w : World) (h : RdAt w g r) :
    Calls Try.prog 59 #[.pointer (some ⟨g, 0, none⟩), .int .i64 (n : Int)] w fun e w' => e = .returned (.string (str (r.take n).1)) ∧ RdAt w' g (r.take n).2 ∧ Turned g w w' := by
  by_cases h0 : r.err = 0
  · by_cases h1 : r.rest.length < n
    · have hd : decide (r.rest.length < n) = true := by simp; omega
      have hr : r.take n = ([], ⟨r.rest, 3⟩) := by simp [Rd.take, h0, h1]
      have hf : r.fail 3 = ⟨r.rest, 3⟩ := by rw [Rd.fail, if_pos h0]
      rw [hr]
      have H := hide h
      have Hf := hide hf
      clear hr h0 h1 h hf
      go_enter Try.func59, Try.ntmps59
      go_wp2_with fail
      refine (left_calls g r _ (unhide H)).mono ?_
      rintro e w' ⟨rfl, rfl⟩
      go_wp2_with fail
      refine (fail_calls g r 3 _ (unhide H)).mono ?_
      rintro e w1 ⟨rfl, h1, t1⟩
      rw [unhide Hf] at h1
      have H1 := hide h1
      clear h1
      go_wp2_with fail
      refine (failed_calls g _ _ (unhide H1)).mono ?_
      rintro e w' ⟨rfl, rfl⟩
      go_wp2
      go_ret
      exact ⟨rfl, unhide H1, t1⟩
    · have hd : decide (r.rest.length < n) = false := by simp; omega
      have hr : r.take n = (r.rest.take n, ⟨r.rest.drop n, 0⟩) := by simp [Rd.take, h0, h1]
      have e0 : (r.err != 0) = false := by simpa using h0
      rw [hr]
      have H := hide h
      have H0 := hide h0
      have c0 := h.c0
      have f0 := h.f0 0
      have es := take_str r.rest n
      have ed := drop_str r.rest n _ rfl
      have b0 : (n : Int) ≤ (r.rest.length : Int) := by omega
      clear hr h0 h1 h
      go_enter Try.func59, Try.ntmps59
      go_wp2_with fail
      refine (left_calls g r _ (unhide H)).mono ?_
      rintro e w' ⟨rfl, rfl⟩
      go_wp2_with fail
      refine (failed_calls g r _ (unhide H)).mono ?_
      rintro e w' ⟨rfl, rfl⟩
      rw [e0]
      go_wp2
      go_ret
      have h2 := (unhide H).set0 (r.rest.drop n)
      rw [unhide H0] at h2
      exact ⟨rfl, h2, (Turned.refl _ _).setCell _⟩
  · have e0 : (r.err != 0) = true := by simpa using h0
    have hr : r.take n = ([], r) := by simp [Rd.take, h0]
    have hf : r.fail 3 = r := by rw [Rd.fail, if_neg h0]
    rw [hr]
    have H := hide h
    have Hf := hide hf
    clear hr h0 h hf
    cases hd : decide (r.rest.length < n) with
    | true =>
      go_enter Try.func59, Try.ntmps59
      go_wp2_with fail
      refine (left_calls g r _ (unhide H)).mono ?_
      rintro e w' ⟨rfl, rfl⟩
      go_wp2_with fail
      refine (fail_calls g r 3 _ (unhide H)).mono ?_
      rintro e w1 ⟨rfl, h1, t1⟩
      rw [unhide Hf] at h1
      have H1 := hide h1
      clear h1
      go_wp2_with fail
      refine (failed_calls g _ _ (unhide H1)).mono ?_
      rintro e w' ⟨rfl, rfl⟩
      rw [e0]
      go_wp2
      go_ret
      exact ⟨rfl, unhide H1, t1⟩
    | false =>
      go_enter Try.func59, Try.ntmps59
      go_wp2_with fail
      refine (left_calls g r _ (unhide H)).mono ?_
      rintro e w' ⟨rfl, rfl⟩
      go_wp2_with fail
      refine (failed_calls g _ _ (unhide H)).mono ?_
      rintro e w' ⟨rfl, rfl⟩
      rw [e0]
      go_wp2
      go_ret
      exact ⟨rfl, unhide H, Turned.refl _ _⟩
end Go.Proofs.Ytlanplknendmaaa
