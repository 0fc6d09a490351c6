/-
  WHAT A READER's SMALL CALLS DO: Left, Fail, failed, End, take; a reader as a cell of memory; what else lies there stays.
-/
import Derived.Test.YtjfnaedcdmmigaaDoorJ6
import Derived.Test.YtjfnaedcdmmigaaDoorJ3
import Derived.Test.YtjfnaedcdmmigaaDoorJ0
import Derived.Laws.CopyRow
import Derived.Laws.CopyOwn
import Derived.Lib.BufferWrite
import Derived.Deep.RegionLaw
import Derived.Deep.RegionHeld3
import Derived.Deep.DeepCutAuto
import Derived.StillTailTactics
import Derived.Deep.MidRow
import Derived.Test.YtjfnaedcdmmigaaDoorJ1
import Derived.Shelf.Strings.Builder2
import Derived.Test.YtjfnaedcdmmigaaDoorProg
import Derived.WalkKit
import Derived.Deep.QuietTactic
import Derived.BigQuiet
/-
  WHAT A READER's number, Byte, Word, Long ANSWER.
-/
/-
  'copy(b, s)' OF A TEXT INTO A ROW OF BYTES: as much as there is room for. As one step of a region that draws its order. Over whatever program.
-/
/-
  WHAT A READER's Digest, Digests, Sig ANSWER.
-/
/-
  A NEW LIST OF DIGESTS, ALL NOUGHTS.
-/
/-
  WHAT A READER's Digests ANSWERS: the digests' bytes in a new row.
-/
/-
  WHAT A READER's Digests AND Sig ANSWER.
-/
/-
  WHAT A READER's Sig ANSWERS.
-/
/-
  WHAT wire's Byte, Word, Long, Text RETURN.
-/
/-
  WHAT wire's Digest RETURNS.
-/
/-
  THE LIBRARY'S CONTRACT OF strings.Builder's WriteString AT THIS SEAT'S NUMBERS; a builder behind calls that leave it.
-/
/-
  THE LIBRARY'S CONTRACTS OF strings.Builder AT THIS SEAT'S NUMBERS: Grow of a new one (WriteString: ShelfW; String: ShelfB).
-/
/-
  WHAT wire's Digest AND Digests RETURN.
-/
/-
  WHAT wire's Sig RETURNS.
-/
/-
  WHAT IS READ WOULD BE WRITTEN SO; WHAT IS WRITTEN IS READ AS IT WAS: the lists alone.
-/
/-
  WHAT IS WRITTEN IS READ AS IT WAS: the lists alone.
-/
/-
  LETTERS, PLAIN: their bytes, the letter that bytes are, and back.
-/
/-
  PAYLOADS, PLAIN: their bytes, the payload that bytes are, and back.
-/
/-
  WHAT package payload's Tag AND Right RETURN; TYPE ASSERTIONS.
-/
/-
  WHAT package payload's Right RETURNS.
-/
namespace Go.Proofs.YtjfnaedcdmmigaaDoor
open Go.RowKit
set_option linter.unusedSimpArgs false
set_option linter.unusedVariables false

/-- All that lay there but one block lies as it lay. -/
structure Turned (g : Nat) (w w' : World) : Prop where
  below : Below g w w'
  kept : ∀ k, k < w.heap.size → k ≠ g → w'.heap[k]? = w.heap[k]?
theorem Turned.refl (g : Nat) (w : World) : Turned g w w := ⟨Below.refl _ _, fun _ _ _ => rfl⟩
theorem Turned.trans {g : Nat} {a b c : World} (h : Turned g a b) (k : Turned g b c) : Turned g a c :=
  ⟨h.below.trans k.below, fun i hi hg => (k.kept i (Nat.lt_of_lt_of_le hi h.below.size) hg).trans (h.kept i hi hg)⟩
theorem Turned.of_below {g : Nat} {w w' : World} (h : Below w.heap.size w w') (hg : g ≤ w.heap.size) : Turned g w w' :=
  ⟨h.mono hg, fun k hk _ => h.block k hk⟩
theorem Turned.setCell {g o : Nat} {w w' : World} (h : Turned g w w') (v : Value) : Turned g w (w'.setCell ⟨g, o, none⟩ v) :=
  ⟨h.below.setCell (by simp) _, fun k hk hg => by rw [heap_setCell_other _ _ _ _ (by show k ≠ g; exact hg)]; exact h.kept k hk hg⟩
theorem Turned.row {g k : Nat} {w w' : World} (h : Turned g w w') {o : Obj} (hg : k ≠ g) (ho : w.heap[k]? = some o) : w'.heap[k]? = some o :=
  (h.kept k (Array.getElem?_eq_some_iff.1 ho).1 hg).trans ho
/-- Behind a reader of the call's own, all that lay ahead of it lies. -/
theorem Turned.under {g B : Nat} {w0 w w' : World} (h : Turned g w w') (h0 : Below B w0 w) (hB : B ≤ g) : Below B w0 w' := h0.trans (h.below.mono hB)

/-- A reader: what is left, what is wrong. -/
structure Rd where
  (rest : List UInt8) (err : Int)
def Rd.cells (r : Rd) : Array Value := #[.string (str r.rest), .int .i64 r.err]
def RdAt (w : World) (g : Nat) (r : Rd) : Prop := w.heap[g]? = some (.cells r.cells 155 (0, 0))
theorem RdAt.lt {w : World} {g : Nat} {r : Rd} (h : RdAt w g r) : g < w.heap.size := (Array.getElem?_eq_some_iff.1 h).1
theorem RdAt.below {w w' : World} {g : Nat} {r : Rd} (h : RdAt w g r) (hb : Below w.heap.size w w') : RdAt w' g r := (hb.block g h.lt).trans h
theorem RdAt.c0 {w : World} {g : Nat} {r : Rd} (h : RdAt w g r) : w.cell? ⟨g, 0, none⟩ = some (.string (str r.rest)) := cell_of_row _ _ _ _ _ _ h
theorem RdAt.c1 {w : World} {g : Nat} {r : Rd} (h : RdAt w g r) : w.cell? ⟨g, 1, none⟩ = some (.int .i64 r.err) := cell_of_row _ _ _ _ _ _ h
theorem RdAt.f0 {w : World} {g : Nat} {r : Rd} (h : RdAt w g r) (o : Nat) : w.frozen? ⟨g, o, none⟩ = false := frozen_of_row _ _ _ _ _ h
theorem RdAt.set1 {w : World} {g : Nat} {r : Rd} (h : RdAt w g r) (e : Int) : RdAt (w.setCell ⟨g, 1, none⟩ (.int .i64 e)) g ⟨r.rest, e⟩ := heap_setCell_same _ _ _ _ _ _ h
theorem RdAt.set0 {w : World} {g : Nat} {r : Rd} (h : RdAt w g r) (l : List UInt8) : RdAt (w.setCell ⟨g, 0, none⟩ (.string (str l))) g ⟨l, r.err⟩ := heap_setCell_same _ _ _ _ _ _ h

def Rd.fail (r : Rd) (e : Int) : Rd := if r.err = 0 then ⟨r.rest, e⟩ else r
/-- A part of so many bytes, and the reader behind it. -/
def Rd.take (r : Rd) (n : Nat) : List UInt8 × Rd :=
  if r.err ≠ 0 then ([], r) else if r.rest.length < n then ([], ⟨r.rest, 3⟩) else (r.rest.take n, ⟨r.rest.drop n, 0⟩)

theorem left_calls (g : Nat) (r : Rd) (w : World) (h : RdAt w g r) :
    Calls Tryd.prog 129 #[.pointer (some ⟨g, 0, none⟩)] w fun e w' => e = .returned (.int .i64 (r.rest.length : Int)) ∧ w' = w := by
  have c0 := h.c0
  clear h
  go_enter Tryd.func129, Tryd.ntmps129
  go_wp2
  go_ret
  exact ⟨rfl, rfl⟩
theorem left_nil (w : World) :
    Calls Tryd.prog 129 #[.pointer none] w fun e w' => e = .returned (.int .i64 0) ∧ w' = w := by
  go_enter Tryd.func129, Tryd.ntmps129
  go_wp2
  go_ret
  exact ⟨rfl, rfl⟩
theorem failed_calls (g : Nat) (r : Rd) (w : World) (h : RdAt w g r) :
    Calls Tryd.prog 130 #[.pointer (some ⟨g, 0, none⟩)] w fun e w' => e = .returned (.bool (r.err != 0)) ∧ w' = w := by
  have c1 := h.c1
  clear h
  go_enter Tryd.func130, Tryd.ntmps130
  go_wp2
  go_ret
  exact ⟨rfl, rfl⟩
theorem failed_nil (w : World) :
    Calls Tryd.prog 130 #[.pointer none] w fun e w' => e = .returned (.bool true) ∧ w' = w := by
  go_enter Tryd.func130, Tryd.ntmps130
  go_wp2
  go_ret
  exact ⟨rfl, rfl⟩
theorem fail_calls (g : Nat) (r : Rd) (k : Int) (w : World) (h : RdAt w g r) :
    Calls Tryd.prog 115 #[.pointer (some ⟨g, 0, none⟩), .int .i64 k] w fun e w' => e = .returned (.tuple #[]) ∧ RdAt w' g (r.fail k) ∧ Turned g w w' := by
  have c1 := h.c1
  have f1 := h.f0 1
  by_cases h0 : r.err = 0
  · have e1 : (r.err == 0) = true := by simpa using h0
    have hr : r.fail k = ⟨r.rest, k⟩ := by rw [Rd.fail, if_pos h0]
    have H := hide h
    rw [hr]
    generalize r.err = re at *
    clear h0 h hr
    go_enter Tryd.func115, Tryd.ntmps115
    go_wp2
    go_end0
    exact ⟨rfl, (unhide H).set1 k, (Turned.refl _ _).setCell _⟩
  · have e1 : (r.err == 0) = false := by simpa using h0
    have hr : r.fail k = r := by rw [Rd.fail, if_neg h0]
    have H := hide h
    rw [hr]
    clear h0 h hr
    go_enter Tryd.func115, Tryd.ntmps115
    go_wp2
    go_end0
    exact ⟨rfl, unhide H, Turned.refl _ _⟩
theorem fail_nil (k : Int) (w : World) :
    Calls Tryd.prog 115 #[.pointer none, .int .i64 k] w fun e w' => e = .returned (.tuple #[]) ∧ w' = w := by
  go_enter Tryd.func115, Tryd.ntmps115
  go_wp2
  go_end0
  exact ⟨rfl, rfl⟩
def Rd.end' (r : Rd) : Int := if r.err ≠ 0 then r.err else if r.rest ≠ [] then 4 else 0
theorem end_nil (w : World) :
    Calls Tryd.prog 91 #[.pointer none] w fun e w' => e = .returned (.int .i64 1) ∧ w' = w := by
  go_enter Tryd.func91, Tryd.ntmps91
  go_wp2
  go_ret
  exact ⟨rfl, rfl⟩
theorem take_nil (n : Nat) (hn : n ≤ 9223372036854775807) (w : World) :
    Calls Tryd.prog 123 #[.pointer none, .int .i64 (n : Int)] w fun e w' => e = .returned (.string (str [])) ∧ w' = w := by
  cases hd : decide (0 < n) with
  | true =>
    go_enter Tryd.func123, Tryd.ntmps123
    go_wp2_with fail
    refine (left_nil _).mono ?_
    rintro e w' ⟨rfl, rfl⟩
    go_wp2_with fail
    refine (fail_nil _ _).mono ?_
    rintro e w' ⟨rfl, rfl⟩
    go_wp2_with fail
    refine (failed_nil _).mono ?_
    rintro e w' ⟨rfl, rfl⟩
    go_wp2
    go_ret
    exact ⟨rfl, rfl⟩
  | false =>
    go_enter Tryd.func123, Tryd.ntmps123
    go_wp2_with fail
    refine (left_nil _).mono ?_
    rintro e w' ⟨rfl, rfl⟩
    go_wp2_with fail
    refine (failed_nil _).mono ?_
    rintro e w' ⟨rfl, rfl⟩
    go_wp2
    go_ret
    exact ⟨rfl, rfl⟩
theorem rdend_calls (g : Nat) (r : Rd) (w : World) (h : RdAt w g r) :
    Calls Tryd.prog 91 #[.pointer (some ⟨g, 0, none⟩)] w fun e w' => e = .returned (.int .i64 r.end') ∧ w' = w := by
  have c0 := h.c0
  have c1 := h.c1
  clear h
  by_cases h0 : r.err = 0
  · have e1 : (r.err != 0) = false := by simpa using h0
    by_cases h1 : r.rest = []
    · have hr : r.end' = 0 := by simp [Rd.end', h0, h1]
      rw [hr]
      rw [h1, show str [] = (⟨#[]⟩ : ByteArray) from rfl] at c0
      generalize r.err = re at *
      clear hr h0 h1
      go_enter Tryd.func91, Tryd.ntmps91
      go_wp2
      go_ret
      exact ⟨rfl, rfl⟩
    · have hr : r.end' = 4 := by simp [Rd.end', h0, h1]
      have hne : (str r.rest).toList.isEmpty = false := by rw [ByteArray.toList_eq, str_toList]; cases hl : r.rest with | nil => exact absurd hl h1 | cons _ _ => rfl
      rw [hr]
      generalize r.err = re at *
      clear hr h0 h1
      go_enter Tryd.func91, Tryd.ntmps91
      go_wp2
      go_ret
      exact ⟨rfl, rfl⟩
  · have e1 : (r.err != 0) = true := by simpa using h0
    have hr : r.end' = r.err := by simp [Rd.end', h0]
    rw [hr]
    clear hr h0
    go_enter Tryd.func91, Tryd.ntmps91
    go_wp2
    go_ret
    exact ⟨rfl, rfl⟩
set_option maxHeartbeats 1000000 in
theorem take_calls (g n : Nat) (hn : n ≤ 4611686018427387904) (r : Rd) (hl : r.rest.length ≤ 4611686018427387904) (w : World) (h : RdAt w g r) :
    Calls Tryd.prog 123 #[.pointer (some ⟨g, 0, none⟩), .int .i64 (n : Int)] w fun e w' => e = .returned (.string (str (r.take n).1)) ∧ RdAt w' g (r.take n).2 ∧ Turned g w w' := by
  by_cases h0 : r.err = 0
  · by_cases h1 : r.rest.length < n
    · have hd : decide (r.rest.length < n) = true := by simp; omega
      have hr : r.take n = ([], ⟨r.rest, 3⟩) := by simp [Rd.take, h0, h1]
      have hf : r.fail 3 = ⟨r.rest, 3⟩ := by rw [Rd.fail, if_pos h0]
      rw [hr]
      have H := hide h
      have Hf := hide hf
      clear hr h0 h1 h hf
      go_enter Tryd.func123, Tryd.ntmps123
      go_wp2_with fail
      refine (left_calls g r _ (unhide H)).mono ?_
      rintro e w' ⟨rfl, rfl⟩
      go_wp2_with fail
      refine (fail_calls g r 3 _ (unhide H)).mono ?_
      rintro e w1 ⟨rfl, h1, t1⟩
      rw [unhide Hf] at h1
      have H1 := hide h1
      clear h1
      go_wp2_with fail
      refine (failed_calls g _ _ (unhide H1)).mono ?_
      rintro e w' ⟨rfl, rfl⟩
      go_wp2
      go_ret
      exact ⟨rfl, unhide H1, t1⟩
    · have hd : decide (r.rest.length < n) = false := by simp; omega
      have hr : r.take n = (r.rest.take n, ⟨r.rest.drop n, 0⟩) := by simp [Rd.take, h0, h1]
      have e0 : (r.err != 0) = false := by simpa using h0
      rw [hr]
      have H := hide h
      have H0 := hide h0
      have c0 := h.c0
      have f0 := h.f0 0
      have es := take_str r.rest n
      have ed := drop_str r.rest n _ rfl
      have b0 : (n : Int) ≤ (r.rest.length : Int) := by omega
      clear hr h0 h1 h
      go_enter Tryd.func123, Tryd.ntmps123
      go_wp2_with fail
      refine (left_calls g r _ (unhide H)).mono ?_
      rintro e w' ⟨rfl, rfl⟩
      go_wp2_with fail
      refine (failed_calls g r _ (unhide H)).mono ?_
      rintro e w' ⟨rfl, rfl⟩
      rw [e0]
      go_wp2
      go_ret
      have h2 := (unhide H).set0 (r.rest.drop n)
      rw [unhide H0] at h2
      exact ⟨rfl, h2, (Turned.refl _ _).setCell _⟩
  · have e0 : (r.err != 0) = true := by simpa using h0
    have hr : r.take n = ([], r) := by simp [Rd.take, h0]
    have hf : r.fail 3 = r := by rw [Rd.fail, if_neg h0]
    rw [hr]
    have H := hide h
    have Hf := hide hf
    clear hr h0 h hf
    cases hd : decide (r.rest.length < n) with
    | true =>
      go_enter Tryd.func123, Tryd.ntmps123
      go_wp2_with fail
      refine (left_calls g r _ (unhide H)).mono ?_
      rintro e w' ⟨rfl, rfl⟩
      go_wp2_with fail
      refine (fail_calls g r 3 _ (unhide H)).mono ?_
      rintro e w1 ⟨rfl, h1, t1⟩
      rw [unhide Hf] at h1
      have H1 := hide h1
      clear h1
      go_wp2_with fail
      refine (failed_calls g _ _ (unhide H1)).mono ?_
      rintro e w' ⟨rfl, rfl⟩
      rw [e0]
      go_wp2
      go_ret
      exact ⟨rfl, unhide H1, t1⟩
    | false =>
      go_enter Tryd.func123, Tryd.ntmps123
      go_wp2_with fail
      refine (left_calls g r _ (unhide H)).mono ?_
      rintro e w' ⟨rfl, rfl⟩
      go_wp2_with fail
      refine (failed_calls g _ _ (unhide H)).mono ?_
      rintro e w' ⟨rfl, rfl⟩
      rw [e0]
      go_wp2
      go_ret
      exact ⟨rfl, unhide H, Turned.refl _ _⟩
end Go.Proofs.YtjfnaedcdmmigaaDoor

namespace Go.Proofs.YtjfnaedcdmmigaaDoor
open Go.RowKit
set_option linter.unusedSimpArgs false
set_option linter.unusedVariables false

/-- The number that bytes are, the highest first. -/
def pNum (l : List UInt8) : Nat := l.foldl (fun n b => n * 256 + b.toNat) 0
theorem pNum_snoc (l : List UInt8) (b : UInt8) : pNum (l ++ [b]) = pNum l * 256 + b.toNat := by simp [pNum]
theorem pNum_lt_from : ∀ (l : List UInt8) (a : Nat), l.foldl (fun n b => n * 256 + b.toNat) a < (a + 1) * 256 ^ l.length
  | [], a => by simp
  | b :: l, a => by
    have h := pNum_lt_from l (a * 256 + b.toNat)
    have hb := b.toNat_lt
    rw [List.foldl_cons, List.length_cons, Nat.pow_succ, Nat.mul_comm (256 ^ l.length) 256, ← Nat.mul_assoc]
    exact Nat.lt_of_lt_of_le h (Nat.mul_le_mul_right _ (by omega))
theorem pNum_lt (l : List UInt8) : pNum l < 256 ^ l.length := by
  have := pNum_lt_from l 0
  rw [Nat.zero_add, Nat.one_mul] at this; exact this
theorem or256 (m b : Nat) (hm : m < 72057594037927936) (hb : b < 256) : bits BinOp.or IntKind.u64 ((m : Int) * 256) (b : Int) = ((m * 256 + b : Nat) : Int) := by
  have e : (m : Int) * 256 = ((m * 256 : Nat) : Int) := by omega
  rw [e, u64_or_nat _ _ (by omega) (by omega), nat_join 8 _ _ (by omega) (by omega)]

set_option maxHeartbeats 400000 in
theorem rnumber_of (p : Value) (n : Nat) (l : List UInt8) (hl : l.length ≤ 8) (R : World → Prop) (w : World)
    (ht : Calls Tryd.prog 123 #[p, .int .i64 (n : Int)] w fun e w1 => e = .returned (.string (str l)) ∧ R w1) :
    Calls Tryd.prog 122 #[p, .int .i64 (n : Int)] w fun e w' => e = .returned (.int .u64 (pNum l : Int)) ∧ ∃ w1, R w1 ∧ Below w1.heap.size w1 w' := by
  have Ht := hide ht
  clear ht
  go_enter Tryd.func122, Tryd.ntmps122
  go_wp2_with fail
  refine (unhide Ht).mono ?_
  rintro e w1 ⟨rfl, hR⟩
  have cv := conv_run l w1
  have hby := bworld_bytes w1 l
  have hbb := bworld_below l (Below.refl w1.heap.size w1) (Nat.le_refl _)
  generalize hW : bworld w1 l = W at *
  have Hby := hide hby
  clear hby hW
  go_wp2
  go_loopw [5, 13] (fun a i wr => ∃ k : Nat, k ≤ l.length ∧ a = .int .u64 (pNum (l.take k) : Int) ∧ i = .int .i64 (k : Int) ∧ wr = W) (fun _ i _ => l.length - (intOf i).toNat)
  case atStart => exact ⟨0, by omega, rfl, rfl, rfl⟩
  case round =>
    obtain ⟨k, hk, rfl, rfl, rfl⟩ := hrel
    by_cases hlt : k < l.length
    · have c := unhide Hby k hlt
      rw [Nat.zero_add] at c
      have hsn := take_snoc' l k 0 hlt
      generalize hb : l.getD k 0 = b at *
      have hpn := pNum_snoc (l.take k) b
      rw [← hsn] at hpn
      have hlt2 := pNum_lt (l.take k)
      have hm : pNum (l.take k) < 72057594037927936 := Nat.lt_of_lt_of_le hlt2 (by
        have : (l.take k).length ≤ 7 := by simp; omega
        calc 256 ^ (l.take k).length ≤ 256 ^ 7 := Nat.pow_le_pow_right (by decide) this
          _ = 72057594037927936 := by decide)
      generalize pNum (l.take k) = m at *
      have hb8 := b.toNat_lt
      have hd : decide (k < l.length) = true := by simpa using hlt
      have b1 : (k : Int) < (l.length : Int) := by omega
      have Hpn := hide hpn
      clear hpn hsn hb hlt2
      go_wp2
      go_roundw
      case rel =>
        refine ⟨k + 1, by omega, ?_, by go_num, trivial⟩
        rw [unhide Hpn]
        rw [or256 m b.toNat hm hb8]
      case measure => simp [intOf]; omega
    · obtain rfl : k = l.length := by omega
      have hd : decide (l.length < l.length) = false := by simp
      rw [List.take_length]
      go_wp2
      go_ret
      exact ⟨rfl, w1, hR, hbb⟩
/-- The number of so many bytes, and the reader behind it. -/
def Rd.num (r : Rd) (n : Nat) : Nat × Rd := (pNum (r.take n).1, (r.take n).2)
theorem Rd.take_length (r : Rd) (n : Nat) : (r.take n).1.length ≤ n := by
  unfold Rd.take
  split
  · simp
  · split
    · simp
    · simp; omega
theorem Rd.take_rest (r : Rd) (n : Nat) : (r.take n).2.rest.length ≤ r.rest.length := by
  unfold Rd.take
  split
  · simp
  · split
    · simp
    · simp
theorem Rd.num_lt (r : Rd) (n : Nat) : (r.num n).1 < 256 ^ n := Nat.lt_of_lt_of_le (pNum_lt _) (Nat.pow_le_pow_right (by decide) (r.take_length n))
theorem rnumber_calls (g n : Nat) (hn : n ≤ 8) (r : Rd) (hl : r.rest.length ≤ 4611686018427387904) (w : World) (h : RdAt w g r) :
    Calls Tryd.prog 122 #[.pointer (some ⟨g, 0, none⟩), .int .i64 (n : Int)] w fun e w' => e = .returned (.int .u64 ((r.num n).1 : Int)) ∧ RdAt w' g (r.num n).2 ∧ Turned g w w' := by
  refine (rnumber_of _ n (r.take n).1 (Nat.le_trans (r.take_length n) hn) (fun w1 => RdAt w1 g (r.take n).2 ∧ Turned g w w1) w (take_calls g n (by omega) r hl w h)).mono ?_
  rintro e w' ⟨rfl, w1, ⟨h1, t1⟩, hb⟩
  exact ⟨rfl, h1.below hb, t1.trans (Turned.of_below hb (Nat.le_of_lt h1.lt))⟩
theorem rnumber_nil (n : Nat) (hn : n ≤ 8) (w : World) :
    Calls Tryd.prog 122 #[.pointer none, .int .i64 (n : Int)] w fun e w' => e = .returned (.int .u64 0) ∧ Below w.heap.size w w' := by
  refine (rnumber_of _ n [] (by simp) (fun w1 => w1 = w) w (take_nil n (by omega) w)).mono ?_
  rintro e w' ⟨rfl, w1, rfl, hb⟩
  exact ⟨rfl, hb⟩
theorem rbyte_calls (g : Nat) (r : Rd) (hl : r.rest.length ≤ 4611686018427387904) (w : World) (h : RdAt w g r) :
    Calls Tryd.prog 111 #[.pointer (some ⟨g, 0, none⟩)] w fun e w' => e = .returned (.int .u8 ((r.num 1).1 : Int)) ∧ RdAt w' g (r.num 1).2 ∧ Turned g w w' := by
  have hc := rnumber_calls g 1 (by decide) r hl w h
  have hlt := r.num_lt 1
  generalize (r.num 1).2 = r1 at *
  generalize (r.num 1).1 = m at *
  have Hc := hide hc
  have hm : m < 256 := hlt
  clear hc h hlt
  go_enter Tryd.func111, Tryd.ntmps111
  go_wp2_with fail
  refine (unhide Hc).mono ?_
  rintro e w' ⟨rfl, h1, t1⟩
  go_wp2
  go_ret
  exact ⟨rfl, h1, t1⟩
theorem rword_calls (g : Nat) (r : Rd) (hl : r.rest.length ≤ 4611686018427387904) (w : World) (h : RdAt w g r) :
    Calls Tryd.prog 112 #[.pointer (some ⟨g, 0, none⟩)] w fun e w' => e = .returned (.int .u32 ((r.num 4).1 : Int)) ∧ RdAt w' g (r.num 4).2 ∧ Turned g w w' := by
  have hc := rnumber_calls g 4 (by decide) r hl w h
  have hlt := r.num_lt 4
  generalize (r.num 4).2 = r1 at *
  generalize (r.num 4).1 = m at *
  have Hc := hide hc
  have hm : m < 4294967296 := hlt
  clear hc h hlt
  go_enter Tryd.func112, Tryd.ntmps112
  go_wp2_with fail
  refine (unhide Hc).mono ?_
  rintro e w' ⟨rfl, h1, t1⟩
  go_wp2
  go_ret
  exact ⟨rfl, h1, t1⟩
theorem rlong_calls (g : Nat) (r : Rd) (hl : r.rest.length ≤ 4611686018427387904) (w : World) (h : RdAt w g r) :
    Calls Tryd.prog 114 #[.pointer (some ⟨g, 0, none⟩)] w fun e w' => e = .returned (.int .u64 ((r.num 8).1 : Int)) ∧ RdAt w' g (r.num 8).2 ∧ Turned g w w' := by
  have hc := rnumber_calls g 8 (by decide) r hl w h
  generalize (r.num 8).2 = r1 at *
  generalize (r.num 8).1 = m at *
  have Hc := hide hc
  clear hc h
  go_enter Tryd.func114, Tryd.ntmps114
  go_wp2_with fail
  refine (unhide Hc).mono ?_
  rintro e w' ⟨rfl, h1, t1⟩
  go_wp2
  go_ret
  exact ⟨rfl, h1, t1⟩
theorem rbyte_nil (w : World) :
    Calls Tryd.prog 111 #[.pointer none] w fun e w' => e = .returned (.int .u8 0) ∧ Below w.heap.size w w' := by
  go_enter Tryd.func111, Tryd.ntmps111
  go_wp2_with fail
  refine (rnumber_nil 1 (by decide) _).mono ?_
  rintro e w' ⟨rfl, hb⟩
  go_wp2
  go_ret
  exact ⟨rfl, hb⟩
theorem rword_nil (w : World) :
    Calls Tryd.prog 112 #[.pointer none] w fun e w' => e = .returned (.int .u32 0) ∧ Below w.heap.size w w' := by
  go_enter Tryd.func112, Tryd.ntmps112
  go_wp2_with fail
  refine (rnumber_nil 4 (by decide) _).mono ?_
  rintro e w' ⟨rfl, hb⟩
  go_wp2
  go_ret
  exact ⟨rfl, hb⟩
theorem rlong_nil (w : World) :
    Calls Tryd.prog 114 #[.pointer none] w fun e w' => e = .returned (.int .u64 0) ∧ Below w.heap.size w w' := by
  go_enter Tryd.func114, Tryd.ntmps114
  go_wp2_with fail
  refine (rnumber_nil 8 (by decide) _).mono ?_
  rintro e w' ⟨rfl, hb⟩
  go_wp2
  go_ret
  exact ⟨rfl, hb⟩
/-- A word that is at most so much. -/
def Rd.len (r : Rd) (most : Int) : Nat × Rd := ((r.num 4).1, if 0 < (r.num 4).1 ∧ most < ((r.num 4).1 : Int) then (r.num 4).2.fail 5 else (r.num 4).2)
theorem Rd.len_lt (r : Rd) (most : Int) : (r.len most).1 < 4294967296 := r.num_lt 4
set_option maxHeartbeats 400000 in
theorem rlength_calls (g : Nat) (r : Rd) (hl : r.rest.length ≤ 4611686018427387904) (most : Int) (w : World) (h : RdAt w g r) :
    Calls Tryd.prog 124 #[.pointer (some ⟨g, 0, none⟩), .int .i64 most] w fun e w' => e = .returned (.int .i64 ((r.len most).1 : Int)) ∧ RdAt w' g (r.len most).2 ∧ Turned g w w' := by
  have hc := rword_calls g r hl w h
  have hlt := r.num_lt 4
  unfold Rd.len
  generalize (r.num 4).2 = r1 at *
  generalize (r.num 4).1 = m at *
  have Hc := hide hc
  have hm : m < 4294967296 := hlt
  clear hc h hlt
  by_cases h0 : 0 < m
  · have d0 : decide (0 < m) = true := by simpa using h0
    by_cases h1 : most < (m : Int)
    · have d1 : decide (most < (m : Int)) = true := by simpa using h1
      have hr : (if 0 < m ∧ most < (m : Int) then r1.fail 5 else r1) = r1.fail 5 := by simp [h0, h1]
      simp only [hr]
      clear hr h0 h1
      go_enter Tryd.func124, Tryd.ntmps124
      go_wp2_with fail
      refine (unhide Hc).mono ?_
      rintro e w1 ⟨rfl, h1, t1⟩
      go_wp2_with fail
      refine (fail_calls g r1 5 _ h1).mono ?_
      rintro e w2 ⟨rfl, h2, t2⟩
      go_wp2
      go_ret
      exact ⟨rfl, h2, t1.trans t2⟩
    · have d1 : decide (most < (m : Int)) = false := by simpa using h1
      have hr : (if 0 < m ∧ most < (m : Int) then r1.fail 5 else r1) = r1 := by simp [h0, h1]
      simp only [hr]
      clear hr h0 h1
      go_enter Tryd.func124, Tryd.ntmps124
      go_wp2_with fail
      refine (unhide Hc).mono ?_
      rintro e w1 ⟨rfl, h1, t1⟩
      go_wp2
      go_ret
      exact ⟨rfl, h1, t1⟩
  · have d0 : decide (0 < m) = false := by simpa using h0
    have hr : (if 0 < m ∧ most < (m : Int) then r1.fail 5 else r1) = r1 := by simp [h0]
    simp only [hr]
    clear hr h0
    go_enter Tryd.func124, Tryd.ntmps124
    go_wp2_with fail
    refine (unhide Hc).mono ?_
    rintro e w1 ⟨rfl, h1, t1⟩
    go_wp2
    go_ret
    exact ⟨rfl, h1, t1⟩
theorem rlength_nil (most : Int) (w : World) :
    Calls Tryd.prog 124 #[.pointer none, .int .i64 most] w fun e w' => e = .returned (.int .i64 0) ∧ Below w.heap.size w w' := by
  go_enter Tryd.func124, Tryd.ntmps124
  go_wp2_with fail
  refine (rword_nil _).mono ?_
  rintro e w' ⟨rfl, hb⟩
  go_wp2
  go_ret
  exact ⟨rfl, hb⟩
theorem Rd.fail_rest (r : Rd) (e : Int) : (r.fail e).rest = r.rest := by unfold Rd.fail; split <;> rfl
theorem Rd.len_rest (r : Rd) (most : Int) : (r.len most).2.rest.length ≤ r.rest.length := by
  unfold Rd.len
  have := r.take_rest 4
  split
  · rw [Rd.fail_rest]; exact this
  · exact this
/-- A text of at most so many bytes. -/
def Rd.text (r : Rd) (most : Int) : List UInt8 × Rd := (r.len most).2.take (r.len most).1
theorem rdtext_calls (g : Nat) (r : Rd) (hl : r.rest.length ≤ 4611686018427387904) (most : Int) (w : World) (h : RdAt w g r) :
    Calls Tryd.prog 113 #[.pointer (some ⟨g, 0, none⟩), .int .i64 most] w fun e w' => e = .returned (.string (str (r.text most).1)) ∧ RdAt w' g (r.text most).2 ∧ Turned g w w' := by
  have hc := rlength_calls g r hl most w h
  have hlt := r.len_lt most
  have hrs := r.len_rest most
  unfold Rd.text
  generalize (r.len most).2 = r1 at *
  generalize (r.len most).1 = m at *
  have Hc := hide hc
  clear hc h
  go_enter Tryd.func113, Tryd.ntmps113
  go_wp2_with fail
  refine (unhide Hc).mono ?_
  rintro e w1 ⟨rfl, h1, t1⟩
  go_wp2_with fail
  refine (take_calls g m (by omega) r1 (by omega) _ h1).mono ?_
  rintro e w2 ⟨rfl, h2, t2⟩
  go_wp2
  go_ret
  exact ⟨rfl, h2, t1.trans t2⟩
theorem rdtext_nil (most : Int) (w : World) :
    Calls Tryd.prog 113 #[.pointer none, .int .i64 most] w fun e w' => e = .returned (.string (str [])) ∧ Below w.heap.size w w' := by
  go_enter Tryd.func113, Tryd.ntmps113
  go_wp2_with fail
  refine (rlength_nil most _).mono ?_
  rintro e w1 ⟨rfl, hb⟩
  go_wp2_with fail
  refine (take_nil 0 (by omega) _).mono ?_
  rintro e w2 ⟨rfl, rfl⟩
  go_wp2
  go_ret
  exact ⟨rfl, hb⟩
end Go.Proofs.YtjfnaedcdmmigaaDoor

namespace Go.Proofs.YtjfnaedcdmmigaaDoor
open Go Go.RowKit
set_option linter.unusedSimpArgs false
set_option linter.unusedVariables false

theorem bc_toList (l : List UInt8) : (bc l).toList = Lib.byteCells l := by simp [bc]
theorem run_copy_str {P : Program} (w : World) (dT sT ty elem : TypeId) (g o dLen dCap : Nat) (l cur : List UInt8) (t : TypeId)
    (hu : P.underlying dT = some (.slice elem)) (hs : (P.info? elem).map (·.size) = some 1) (hg : w.heap[g]? = some (.cells (bc cur) t (0, 0))) (m : Nat) (hm : m = Nat.min l.length dLen) (hfit : o + m ≤ cur.length) :
    (Builtin.copy_ #[dT, sT] ty #[.slice (some ⟨g, o, none⟩) dLen dCap, .string (str l)]).run P w = .ok (goInt m) (w.setRow g (bc (cur.take o ++ l.take m ++ cur.drop (o + m)))) := by
  have hl : (Lib.byteCells (l.take m)).length = m := by
    rw [Lib.byteCells_length, List.length_take, hm]; exact Nat.min_eq_left (Nat.min_le_left _ _)
  have hst := run_storeCells_at (P := P) g o t (Lib.byteCells (l.take m)) 0 (bc cur) w hg (by rw [hl, bc_size]; simpa using hfit) (Lib.byteCells_one _)
  rw [hl, bc_toList, Nat.add_zero] at hst
  have e : ((Lib.byteCells cur).take o ++ Lib.byteCells (l.take m) ++ (Lib.byteCells cur).drop (o + m)).toArray = bc (cur.take o ++ l.take m ++ cur.drop (o + m)) := by
    simp [bc, Lib.byteCells]
  rw [e] at hst
  have hmin : Nat.min (str l).size dLen = m := by rw [str_size, hm]
  have htk : List.take m (List.map (fun b : UInt8 => Value.int IntKind.u8 (b.toNat : Int)) (str l).data.toList) = Lib.byteCells (l.take m) := by
    rw [str_toList]; simp [Lib.byteCells]
  cases hq : P.info? elem with
  | none => simp [hq] at hs
  | some i =>
    simp [Builtin.copy_, run_underlying hu, Builtin.lenOf, Builtin.firstCells, sizeOf, typeInfo, hq]
    rw [str_size] at hmin
    have hmin' : (min l.length dLen) = m := hmin
    rw [str_toList] at htk
    simp [hmin', htk, hst, Result.andThen]
theorem step_copy_str {P : Program} {ops : Array Oper} {o : Oper} {a : Act} {w : World} {K : Act → World → Prop} {Q : Exit → Act → World → Prop} {E : Prop}
    (hgd : o.guard = none) (d x : Operand) (dT sT : TypeId) (hop : o.op = Op.call { callee := Callee.builtin Builtin.copy, args := #[d, x], argTypes := #[dT, sT] })
    (elem : TypeId) (hu : P.underlying dT = some (.slice elem)) (hs : (P.info? elem).map (·.size) = some 1)
    (g off dLen dCap : Nat) (hd : a.eval d = .slice (some ⟨g, off, none⟩) dLen dCap) (l : List UInt8) (hx : a.eval x = .string (str l)) (cur : List UInt8) (t : TypeId) (hg : w.heap[g]? = some (.cells (bc cur) t (0, 0)))
    (m : Nat) (hm : m = Nat.min l.length dLen) (hfit : off + m ≤ cur.length)
    (hK : K (a.put o.dst (goInt m)) (w.setRow g (bc (cur.take off ++ l.take m ++ cur.drop (off + m))))) :
    if Region.wanted o (yielded ops a.tmps) = true then Oper.wp P o a w K Q else E := by
  have hw : Region.wanted o (yielded ops a.tmps) = true := by simp [Region.wanted, hgd]
  rw [if_pos hw]
  have hrun := run_copy_str (P := P) w dT sT o.type elem g off dLen dCap l cur t hu hs hg m hm hfit
  unfold Oper.wp
  rw [List.append_assoc] at hK hrun
  simp [execOp, hop, resolve, invoke, builtin, hd, hx, hrun, Result.andThen]
  exact hK
theorem wpList_copy_str {P : Program} {w : World} {ops : Array Oper} {rest : List Oper} {o : Oper} {a : Act} {Q : Exit → Act → World → Prop} (hgd : o.guard = none) (d x : Operand) (dT sT : TypeId)
    (hop : o.op = Op.call { callee := Callee.builtin Builtin.copy, args := #[d, x], argTypes := #[dT, sT] })
    (elem : TypeId) (hu : P.underlying dT = some (.slice elem)) (hs : (P.info? elem).map (·.size) = some 1)
    (g off dLen dCap : Nat) (hd : a.eval d = .slice (some ⟨g, off, none⟩) dLen dCap) (l : List UInt8) (hx : a.eval x = .string (str l)) (cur : List UInt8) (t : TypeId) (hg : w.heap[g]? = some (.cells (bc cur) t (0, 0)))
    (m : Nat) (hm : m = Nat.min l.length dLen) (hfit : off + m ≤ cur.length)
    (h : wpList P ops Q rest (a.put o.dst (goInt m)) (w.setRow g (bc (cur.take off ++ l.take m ++ cur.drop (off + m))))) : wpList P ops Q (o :: rest) a w := by
  refine wpList_plain hgd fun K hK => ?_
  have hrun := run_copy_str (P := P) w dT sT o.type elem g off dLen dCap l cur t hu hs hg m hm hfit
  unfold Oper.wp
  rw [List.append_assoc] at h hrun
  simp [execOp, hop, resolve, invoke, builtin, hd, hx, hrun, Result.andThen]
  exact hK _ _ h
end Go.Proofs.YtjfnaedcdmmigaaDoor

namespace Go.Proofs.YtjfnaedcdmmigaaDoor
open Go.RowKit
set_option linter.unusedSimpArgs false
set_option linter.unusedVariables false

/-- A digest of the bytes that are there. -/
def pad32 (l : List UInt8) : List UInt8 := l ++ List.replicate (32 - l.length) 0
theorem pad32_length (l : List UInt8) (h : l.length ≤ 32) : (pad32 l).length = 32 := by simp [pad32]; omega

end Go.Proofs.YtjfnaedcdmmigaaDoor

namespace Go.Proofs.YtjfnaedcdmmigaaDoor
open Go.RowKit
set_option linter.unusedSimpArgs false
set_option linter.unusedVariables false

theorem repl_getD (n j : Nat) (h : j < n) : (List.replicate n (0 : UInt8)).getD j 0 = 0 := by
  rw [List.getD_eq_getElem?_getD, List.getElem?_replicate, if_pos h]; rfl
/-- A new list of digests, all noughts. -/
theorem make_digests (n : Nat) (h : n ≤ 4294967296) (w : World) : (Instr.makeSlice 58 (.int .i64 (n : Int)) (.int .i64 (n : Int))).run Tryd.prog w = .ok (.slice (some ⟨w.heap.size, 0, none⟩) n n) (w.alloc (.cells (bc (List.replicate (32 * n) 0)) 195)) := by
  obtain ⟨i, hi⟩ : ∃ i, Tryd.prog.info? 195 = some i := by
    cases hq : Tryd.prog.info? 195 with
    | none => exact absurd hq (by rw [show Tryd.prog.info? 195 = some ((Tryd.prog.info? 195).getD default) by kernel_rfl]; simp)
    | some i => exact ⟨i, rfl⟩
  have e : (Tryd.prog.info? 195).map (fun i => (i.zero, i.size, i.bytes)) = some (some (.agg (bc (List.replicate 32 0))), 32, 32) := by kernel_rfl
  rw [hi] at e
  simp only [Option.map_some, Option.some.injEq, Prod.mk.injEq] at e
  obtain ⟨e1, e2, e3⟩ := e
  have := run_make (P := Tryd.prog) w 58 195 i (.agg (bc (List.replicate 32 0))) Tryd.underlying58 hi e1 .i64 .i64 n n (by omega) (by omega) (by rw [e3]; omega) (by omega)
  rw [this, e2]
  simp only [Int.toNat_natCast]
  rw [show (Value.agg (bc (List.replicate 32 0))).cells = bc (List.replicate 32 0) from rfl]
  have em : madeCells (bc (List.replicate 32 0)) (n * 32) = bc (List.replicate (32 * n) 0) := by
    apply Array.ext
    · simp [size_madeCells]; omega
    · intro j h1 h2
      have hz : ∀ r, r < 32 → (bc (List.replicate 32 0))[r]! = Value.int .u8 0 := fun r hr => by
        have hb := bc_at (List.replicate 32 0) r (by simpa using hr)
        rw [getElem!_def, hb, repl_getD 32 r hr]; rfl
      have h2' : j < 32 * n := by simpa using h2
      have hb2 := bc_at (List.replicate (32 * n) 0) j (by simpa using h2')
      have e2 : (bc (List.replicate (32 * n) 0))[j] = Value.int .u8 0 := by
        rw [Array.getElem?_eq_getElem h2] at hb2
        rw [Option.some.inj hb2, repl_getD (32 * n) j h2']; rfl
      rw [e2]
      simp only [madeCells, Array.getElem_map, Array.getElem_range]
      exact hz _ (by rw [bc_size, List.length_replicate]; omega)
  rw [em]

end Go.Proofs.YtjfnaedcdmmigaaDoor

namespace Go.Proofs.YtjfnaedcdmmigaaDoor
open Go.RowKit
set_option linter.unusedSimpArgs false
set_option linter.unusedVariables false

theorem splice_list (l : List UInt8) (s j k : Nat) (hl : l.length = 32 * k) (hs : s = 32 * j) (hj : j < k) :
    (l.take (32 * j) ++ List.replicate (32 * (k - j)) 0).take (j * 32) ++ (l.drop s).take 32 ++ (l.take (32 * j) ++ List.replicate (32 * (k - j)) 0).drop (j * 32 + 32) = l.take (32 * (j + 1)) ++ List.replicate (32 * (k - (j + 1))) 0 := by
  have h1 : (l.take (32 * j)).length = 32 * j := by rw [List.length_take]; omega
  have e1 : (l.take (32 * j) ++ List.replicate (32 * (k - j)) 0).take (j * 32) = l.take (32 * j) := by
    rw [List.take_append_of_le_length (by omega), List.take_of_length_le (by omega)]
  have e2 : (l.take (32 * j) ++ List.replicate (32 * (k - j)) (0 : UInt8)).drop (j * 32 + 32) = List.replicate (32 * (k - (j + 1))) 0 := by
    rw [List.drop_append, h1, List.drop_of_length_le (by omega), List.drop_replicate, List.nil_append]
    congr 1; omega
  rw [e1, e2, hs, show 32 * (j + 1) = 32 * j + 32 by omega, List.take_add]
end Go.Proofs.YtjfnaedcdmmigaaDoor

namespace Go.Proofs.YtjfnaedcdmmigaaDoor
open Go.RowKit
set_option linter.unusedSimpArgs false
set_option linter.unusedVariables false

/-- A list of digests in memory: their bytes. -/
def Digs (w : World) (v : Value) (l : List UInt8) : Prop :=
  ∃ p n cap, v = .slice p n cap ∧ l.length = 32 * n ∧ (0 < n → ∃ b off, p = some ⟨b, off, none⟩ ∧ b < w.heap.size ∧ Bytes w b off l)
theorem Digs.below {w w' : World} {v : Value} {l : List UInt8} (h : Digs w v l) (hb : Below w.heap.size w w') : Digs w' v l := by
  obtain ⟨p, n, cap, rfl, hl, hp⟩ := h
  refine ⟨p, n, cap, rfl, hl, fun hn => ?_⟩
  obtain ⟨b, off, rfl, hlt, hby⟩ := hp hn
  exact ⟨b, off, rfl, Nat.lt_of_lt_of_le hlt hb.size, hby.below hb hlt⟩
/-- A new row of digests. -/
theorem digs_row {w : World} {b k : Nat} {l : List UInt8} {t : TypeId} (hl : l.length = 32 * k) (h : w.heap[b]? = some (.cells (bc l) t (0, 0))) : Digs w (.slice (some ⟨b, 0, none⟩) k k) l :=
  ⟨_, _, _, rfl, hl, fun _ => ⟨b, 0, rfl, (Array.getElem?_eq_some_iff.1 h).1, fun j hj => by rw [Nat.zero_add, cell_of_row _ _ _ _ _ _ h]; exact bc_at _ _ hj⟩⟩

theorem Rd.take_whole (r : Rd) (n : Nat) : (r.take n).1.length = 0 ∨ (r.take n).1.length = n := by
  unfold Rd.take
  split
  · simp
  · split
    · simp
    · simp; omega
/-- Digests of at most so many: their bytes. -/
def Rd.digests (r : Rd) (most : Int) : List UInt8 × Rd := (r.len most).2.take (32 * (r.len most).1)
theorem Rd.digests_rest (r : Rd) (most : Int) : (r.digests most).2.rest.length ≤ r.rest.length := Nat.le_trans (Rd.take_rest _ _) (r.len_rest most)
/-- A signature's cells. -/
def sigCells (i : Int) (a b c : Value) : Array Value := #[.int .i64 i, a, b, c]
def sig0 : Array Value := #[.int .i64 0, .slice none 0 0, .slice none 0 0, .slice none 0 0]
theorem sig_cell {w : World} {G : Nat} {cs : Array Value} {t : TypeId} (h : w.heap[G]? = some (.cells cs t (0, 0))) : (∀ j v, cs[j]? = some v → w.cell? ⟨G, j, none⟩ = some v) ∧ (∀ j, w.frozen? ⟨G, j, none⟩ = false) :=
  ⟨fun j v hv => (cell_of_row _ _ _ _ _ _ h).trans hv, fun j => frozen_of_row _ _ _ _ _ h⟩
end Go.Proofs.YtjfnaedcdmmigaaDoor

namespace Go.Proofs.YtjfnaedcdmmigaaDoor
open Go.RowKit
set_option linter.unusedSimpArgs false
set_option linter.unusedVariables false

theorem Turned.alloc {g : Nat} {w w' : World} (h : Turned g w w') (hg : g ≤ w'.heap.size) (o : Obj) : Turned g w (w'.alloc o) :=
  h.trans (Turned.of_below ((Below.refl _ _).alloc (Nat.le_refl _) o) hg)
theorem Turned.setNew {g G o : Nat} {w w' : World} (h : Turned g w w') (hG : w.heap.size ≤ G) (hg : g ≤ G) (v : Value) : Turned g w (w'.setCell ⟨G, o, none⟩ v) :=
  ⟨h.below.setCell (by show g ≤ G; exact hg) _, fun k hk hk2 => by rw [heap_setCell_other _ _ _ _ (by show k ≠ G; omega)]; exact h.kept k hk hk2⟩
theorem RdAt.other {g G o : Nat} {w : World} {r : Rd} (h : RdAt w g r) (hG : g ≠ G) (v : Value) : RdAt (w.setCell ⟨G, o, none⟩ v) g r :=
  (heap_setCell_other w ⟨G, o, none⟩ g v (by show g ≠ G; exact hG)).trans h
theorem RdAt.alloc {g : Nat} {w : World} {r : Rd} (h : RdAt w g r) (o : Obj) : RdAt (w.alloc o) g r := (Below.heap_alloc w o g h.lt).trans h

def Rd.head (r : Rd) : Rd := if 2147483647 < (r.num 4).1 then (r.num 4).2.fail 8 else (r.num 4).2
theorem Rd.head_rest (r : Rd) : r.head.rest.length ≤ r.rest.length := by
  unfold Rd.head
  have := r.take_rest 4
  split
  · rw [Rd.fail_rest]; exact this
  · exact this
def Rd.d1 (r : Rd) : List UInt8 × Rd := r.head.digests 32
def Rd.d2 (r : Rd) : List UInt8 × Rd := r.d1.2.digests 32
def Rd.d3 (r : Rd) : List UInt8 × Rd := r.d2.2.digests 32
theorem Rd.d1_rest (r : Rd) : r.d1.2.rest.length ≤ r.rest.length := Nat.le_trans (Rd.digests_rest _ _) r.head_rest
theorem Rd.d2_rest (r : Rd) : r.d2.2.rest.length ≤ r.rest.length := Nat.le_trans (Rd.digests_rest _ _) r.d1_rest
theorem Rd.d3_rest (r : Rd) : r.d3.2.rest.length ≤ r.rest.length := Nat.le_trans (Rd.digests_rest _ _) r.d2_rest


end Go.Proofs.YtjfnaedcdmmigaaDoor

namespace Go.Proofs.YtjfnaedcdmmigaaDoor
open Go.RowKit
set_option linter.unusedSimpArgs false
set_option linter.unusedVariables false

theorem wword_calls (n : Nat) (hn : n < 4294967296) (w : World) :
    Calls Tryd.prog 108 #[.int .u32 (n : Int)] w fun e w' => e = .returned (.string (str (pBig n 4))) ∧ Below w.heap.size w w' := by
  have hc := number_calls n 4 (by decide) (by decide) w
  generalize pBig n 4 = B at *
  have Hc := hide hc
  clear hc
  go_enter Tryd.func108, Tryd.ntmps108
  go_wp2_with fail
  refine (unhide Hc).mono ?_
  rintro e w' ⟨rfl, hb⟩
  go_wp2
  go_ret
  exact ⟨rfl, hb⟩
theorem wbyte_calls (n : Nat) (hn : n < 256) (w : World) :
    Calls Tryd.prog 87 #[.int .u8 (n : Int)] w fun e w' => e = .returned (.string (str (pBig n 1))) ∧ Below w.heap.size w w' := by
  have hc := number_calls n 1 (by decide) (by decide) w
  generalize pBig n 1 = B at *
  have Hc := hide hc
  clear hc
  go_enter Tryd.func87, Tryd.ntmps87
  go_wp2_with fail
  refine (unhide Hc).mono ?_
  rintro e w' ⟨rfl, hb⟩
  go_wp2
  go_ret
  exact ⟨rfl, hb⟩
/-- A text's length, and it. -/
def pText4 (l : List UInt8) : List UInt8 := pBig l.length 4 ++ l
theorem pText4_length (l : List UInt8) : (pText4 l).length = 4 + l.length := by unfold pText4; rw [List.length_append, pBig_length]
theorem wtext_calls (l : List UInt8) (hl : l.length < 4294967296) (w : World) :
    Calls Tryd.prog 109 #[.string (str l)] w fun e w' => e = .returned (.string (str (pText4 l))) ∧ Below w.heap.size w w' := by
  have hc := wword_calls l.length hl w
  unfold pText4
  have hlen := pBig_length l.length 4
  generalize pBig l.length 4 = B at *
  have Hc := hide hc
  have ea := append_str B l
  have n1 : ¬ 9223372036854775807 < B.length + l.length := by omega
  clear hc hlen
  go_enter Tryd.func109, Tryd.ntmps109
  go_wp2_with fail
  refine (unhide Hc).mono ?_
  rintro e w' ⟨rfl, hb⟩
  go_wp2
  go_ret
  exact ⟨rfl, hb⟩
end Go.Proofs.YtjfnaedcdmmigaaDoor

namespace Go.Proofs.YtjfnaedcdmmigaaDoor
open Go.RowKit
set_option linter.unusedSimpArgs false
set_option linter.unusedVariables false

end Go.Proofs.YtjfnaedcdmmigaaDoor

namespace Go.Proofs
open Go.Shelf
namespace YtjfnaedcdmmigaaDoor
open Go.RowKit
theorem builder_below {T e : TypeId} {B b : Nat} {p : Value} {bs : List Value} {w w' : World} (h : Lib.BuilderAtF T e B b p bs w) (hb : Below w.heap.size w w') : Lib.BuilderAtF T e B b p bs w' := by
  obtain ⟨hB, v, hv, ⟨h1, h2⟩, hne⟩ := h
  have lt : ∀ k o, w.heap[k]? = some o → k < w.heap.size := fun k o ho => (Array.getElem?_eq_some_iff.1 ho).1
  refine ⟨hB, v, (hb.block b (lt _ _ hv)).trans hv, ⟨h1, ?_⟩, hne⟩
  rcases h2 with h2 | ⟨g, cap, cur, fz, rfl, hg, hh, hrest⟩
  · exact .inl h2
  · exact .inr ⟨g, cap, cur, fz, rfl, hg, (hb.block g (lt _ _ hh)).trans hh, hrest⟩
theorem isBuilder_below {T e : TypeId} {B b : Nat} {bs : List Value} {w w' : World} (h : Lib.IsBuilderF T e B b bs w) (hb : Below w.heap.size w w') : Lib.IsBuilderF T e B b bs w' :=
  h.elim (fun h => .inl (builder_below h hb)) (fun h => .inr (builder_below h hb))
end YtjfnaedcdmmigaaDoor
end Go.Proofs

namespace Go.Proofs
open Go.Shelf
namespace YtjfnaedcdmmigaaDoor
open Go.RowKit
end YtjfnaedcdmmigaaDoor
end Go.Proofs

namespace Go.Proofs.YtjfnaedcdmmigaaDoor
open Go.RowKit
set_option linter.unusedSimpArgs false
set_option linter.unusedVariables false

/-- How many, and they. -/
def pDigests (l : List UInt8) : List UInt8 := pBig (l.length / 32) 4 ++ l
end Go.Proofs.YtjfnaedcdmmigaaDoor

namespace Go.Proofs.YtjfnaedcdmmigaaDoor
open Go.RowKit
set_option linter.unusedSimpArgs false
set_option linter.unusedVariables false

/-- A signature's bytes. -/
def pSig (i : Int) (a b c : List UInt8) : List UInt8 := pBig (i % 4294967296).toNat 4 ++ pDigests a ++ pDigests b ++ pDigests c
theorem pDigests_length (l : List UInt8) : (pDigests l).length = 4 + l.length := by rw [pDigests, List.length_append, pBig_length]
end Go.Proofs.YtjfnaedcdmmigaaDoor

namespace Go.Proofs.YtjfnaedcdmmigaaDoor
open Go.RowKit
set_option linter.unusedSimpArgs false
set_option linter.unusedVariables false

theorem pBig_snoc (m b k : Nat) (hb : b < 256) : pBig (m * 256 + b) (k + 1) = pBig m k ++ [UInt8.ofNat b] := by
  unfold pBig
  rw [List.range_succ, List.map_append]
  congr 1
  · apply List.map_congr_left
    intro i hi
    have hi : i < k := List.mem_range.1 hi
    rw [show k + 1 - 1 - i = (k - 1 - i) + 1 by omega, Nat.mul_add, Nat.pow_add, Nat.mul_comm (2 ^ (8 * (k - 1 - i))), ← Nat.div_div_eq_div_mul, show (m * 256 + b) / 2 ^ (8 * 1) = m by omega]
  · simp only [List.map_cons, List.map_nil, Nat.add_sub_cancel, Nat.sub_self, Nat.mul_zero, Nat.pow_zero, Nat.div_one]
    congr 1
    apply UInt8.toNat.inj
    simp only [UInt8.toNat_ofNat']
    omega
theorem pBig_pNum : ∀ (k : Nat) (l : List UInt8), l.length = k → pBig (pNum l) k = l
  | 0, l, h => by rw [List.eq_nil_of_length_eq_zero h]; rfl
  | k + 1, l, h => by
    obtain ⟨a, b, rfl⟩ : ∃ a b, l = a ++ [b] := ⟨l.dropLast, l.getLast (by intro h0; rw [h0] at h; cases h), (List.dropLast_concat_getLast _).symm⟩
    have ha : a.length = k := by simpa using h
    rw [pNum_snoc, pBig_snoc _ _ _ b.toNat_lt, pBig_pNum k a ha]; simp
theorem pNum_pBig : ∀ (k n : Nat), n < 256 ^ k → pNum (pBig n k) = n
  | 0, n, h => by
    have : n = 0 := by simpa using h
    subst this; rfl
  | k + 1, n, h => by
    have e : n = n / 256 * 256 + n % 256 := by omega
    have h2 : n / 256 < 256 ^ k := by rw [Nat.pow_succ] at h; omega
    rw [e, pBig_snoc _ _ _ (by omega), pNum_snoc, pNum_pBig k _ h2]
    simp only [UInt8.toNat_ofNat']
    omega

theorem Rd.take_ok (r : Rd) (n : Nat) (h : (r.take n).2.err = 0) : r.err = 0 ∧ r.rest = (r.take n).1 ++ (r.take n).2.rest ∧ (r.take n).1.length = n := by
  unfold Rd.take at *
  split at h
  · rename_i h0; exact absurd h h0
  · rename_i h0
    split at h
    · cases h
    · rename_i h1
      rw [if_neg h0, if_neg h1]
      exact ⟨by omega, (List.take_append_drop _ _).symm, by simp; omega⟩
theorem Rd.num_ok (r : Rd) (n : Nat) (h : (r.num n).2.err = 0) : r.err = 0 ∧ r.rest = pBig (r.num n).1 n ++ (r.num n).2.rest := by
  obtain ⟨h0, h1, h2⟩ := r.take_ok n h
  refine ⟨h0, ?_⟩
  show r.rest = pBig (pNum (r.take n).1) n ++ _
  rw [pBig_pNum n _ h2]; exact h1
theorem Rd.fail_bad (r : Rd) (e : Int) (he : e ≠ 0) : (r.fail e).err ≠ 0 := by
  unfold Rd.fail
  split
  · exact he
  · assumption
theorem Rd.len_ok (r : Rd) (most : Int) (h : (r.len most).2.err = 0) : r.err = 0 ∧ r.rest = pBig (r.len most).1 4 ++ (r.len most).2.rest := by
  unfold Rd.len at *
  split at h
  · exact absurd h (Rd.fail_bad _ _ (by decide))
  · rename_i hc
    simp only [if_neg hc]
    exact r.num_ok 4 h
theorem Rd.text_ok (r : Rd) (most : Int) (h : (r.text most).2.err = 0) : r.err = 0 ∧ r.rest = pText4 (r.text most).1 ++ (r.text most).2.rest := by
  obtain ⟨h0, h1, h2⟩ := Rd.take_ok _ _ h
  obtain ⟨h3, h4⟩ := r.len_ok most h0
  refine ⟨h3, ?_⟩
  rw [h4, h1, pText4, List.append_assoc]
  show _ = pBig ((r.len most).2.take (r.len most).1).1.length 4 ++ _
  rw [h2]; rfl
theorem Rd.digests_ok (r : Rd) (most : Int) (h : (r.digests most).2.err = 0) : r.err = 0 ∧ r.rest = pDigests (r.digests most).1 ++ (r.digests most).2.rest := by
  obtain ⟨h0, h1, h2⟩ := Rd.take_ok _ _ h
  obtain ⟨h3, h4⟩ := r.len_ok most h0
  refine ⟨h3, ?_⟩
  rw [h4, h1, pDigests, List.append_assoc]
  show _ = pBig (((r.len most).2.take (32 * (r.len most).1)).1.length / 32) 4 ++ _
  rw [h2, Nat.mul_div_cancel_left _ (by decide)]; rfl
theorem Rd.head_ok (r : Rd) (h : r.head.err = 0) : r.err = 0 ∧ (r.num 4).1 ≤ 2147483647 ∧ r.rest = pBig (r.num 4).1 4 ++ r.head.rest := by
  unfold Rd.head at *
  split at h
  · exact absurd h (Rd.fail_bad _ _ (by decide))
  · rename_i hc
    simp only [if_neg hc]
    have := r.num_ok 4 h
    exact ⟨this.1, by omega, this.2⟩
theorem Rd.sig_ok (r : Rd) (h : r.d3.2.err = 0) : r.err = 0 ∧ (r.num 4).1 ≤ 2147483647 ∧ r.rest = pSig ((r.num 4).1 : Int) r.d1.1 r.d2.1 r.d3.1 ++ r.d3.2.rest := by
  obtain ⟨a3, b3⟩ := r.d2.2.digests_ok 32 h
  obtain ⟨a2, b2⟩ := r.d1.2.digests_ok 32 a3
  obtain ⟨a1, b1⟩ := r.head.digests_ok 32 a2
  obtain ⟨a0, c0, b0⟩ := r.head_ok a1
  refine ⟨a0, c0, ?_⟩
  have b3' : r.d2.2.rest = pDigests r.d3.1 ++ r.d3.2.rest := b3
  have b2' : r.d1.2.rest = pDigests r.d2.1 ++ r.d2.2.rest := b2
  have b1' : r.head.rest = pDigests r.d1.1 ++ r.d1.2.rest := b1
  rw [b0, b1', b2', b3', pSig, show ((r.num 4).1 : Int) % 4294967296 = ((r.num 4).1 : Int) by omega, Int.toNat_natCast]
  simp only [List.append_assoc]
theorem Rd.end_ok (r : Rd) (h : r.end' = 0) : r.err = 0 ∧ r.rest = [] := by
  unfold Rd.end' at h
  split at h
  · rename_i h0; exact absurd h h0
  · rename_i h0
    split at h
    · cases h
    · rename_i h1; exact ⟨by omega, by simpa using h1⟩
end Go.Proofs.YtjfnaedcdmmigaaDoor

namespace Go.Proofs.YtjfnaedcdmmigaaDoor
open Go.RowKit
set_option linter.unusedSimpArgs false
set_option linter.unusedVariables false

theorem take_back (a t : List UInt8) (n : Nat) (h : a.length = n) : (⟨a ++ t, 0⟩ : Rd).take n = (a, ⟨t, 0⟩) := by
  subst h
  simp [Rd.take]
theorem num_back (n k : Nat) (h : n < 256 ^ k) (t : List UInt8) : (⟨pBig n k ++ t, 0⟩ : Rd).num k = (n, ⟨t, 0⟩) := by
  simp only [Rd.num, take_back _ t k (pBig_length n k), pNum_pBig k n h]
theorem len_back (n : Nat) (h : n < 4294967296) (most : Int) (hm : (n : Int) ≤ most) (t : List UInt8) : (⟨pBig n 4 ++ t, 0⟩ : Rd).len most = (n, ⟨t, 0⟩) := by
  simp only [Rd.len, num_back n 4 h t]
  rw [if_neg (by omega)]
theorem text_back (s t : List UInt8) (h : s.length < 4294967296) : (⟨pText4 s ++ t, 0⟩ : Rd).text (s.length : Int) = (s, ⟨t, 0⟩) := by
  simp only [Rd.text, pText4, List.append_assoc, len_back s.length h (s.length : Int) (Int.le_refl _), take_back s t s.length rfl]
theorem digests_back (l t : List UInt8) (k : Nat) (h : l.length = 32 * k) (hk : k ≤ 32) : (⟨pDigests l ++ t, 0⟩ : Rd).digests 32 = (l, ⟨t, 0⟩) := by
  have e : l.length / 32 = k := by omega
  simp only [Rd.digests, pDigests, List.append_assoc, e, len_back k (by omega) 32 (by omega), take_back l t (32 * k) h]
theorem sig_back (i : Nat) (hi : i ≤ 2147483647) (l1 l2 l3 t : List UInt8) (k1 k2 k3 : Nat) (h1 : l1.length = 32 * k1) (h2 : l2.length = 32 * k2) (h3 : l3.length = 32 * k3) (m1 : k1 ≤ 32) (m2 : k2 ≤ 32) (m3 : k3 ≤ 32) :
    ((⟨pSig (i : Int) l1 l2 l3 ++ t, 0⟩ : Rd).num 4).1 = i ∧ (⟨pSig (i : Int) l1 l2 l3 ++ t, 0⟩ : Rd).d1.1 = l1 ∧ (⟨pSig (i : Int) l1 l2 l3 ++ t, 0⟩ : Rd).d2.1 = l2 ∧ (⟨pSig (i : Int) l1 l2 l3 ++ t, 0⟩ : Rd).d3 = (l3, ⟨t, 0⟩) := by
  have e : ((i : Int) % 4294967296).toNat = i := by omega
  have h0 : (⟨pSig (i : Int) l1 l2 l3 ++ t, 0⟩ : Rd).num 4 = (i, ⟨pDigests l1 ++ (pDigests l2 ++ (pDigests l3 ++ t)), 0⟩) := by
    rw [pSig, e]; simp only [List.append_assoc]; exact num_back i 4 (by show i < 4294967296; omega) _
  have hh : (⟨pSig (i : Int) l1 l2 l3 ++ t, 0⟩ : Rd).head = ⟨pDigests l1 ++ (pDigests l2 ++ (pDigests l3 ++ t)), 0⟩ := by
    unfold Rd.head; rw [h0, if_neg (by show ¬ 2147483647 < i; omega)]
  have hd1 : (⟨pSig (i : Int) l1 l2 l3 ++ t, 0⟩ : Rd).d1 = (l1, ⟨pDigests l2 ++ (pDigests l3 ++ t), 0⟩) := by
    unfold Rd.d1; rw [hh, digests_back l1 _ k1 h1 m1]
  have hd2 : (⟨pSig (i : Int) l1 l2 l3 ++ t, 0⟩ : Rd).d2 = (l2, ⟨pDigests l3 ++ t, 0⟩) := by
    unfold Rd.d2; rw [hd1, digests_back l2 _ k2 h2 m2]
  have hd3 : (⟨pSig (i : Int) l1 l2 l3 ++ t, 0⟩ : Rd).d3 = (l3, ⟨t, 0⟩) := by
    unfold Rd.d3; rw [hd2, digests_back l3 _ k3 h3 m3]
  exact ⟨by rw [h0], by rw [hd1], by rw [hd2], hd3⟩
end Go.Proofs.YtjfnaedcdmmigaaDoor

namespace Go.Proofs.YtjfnaedcdmmigaaDoor
open Go.RowKit
set_option linter.unusedSimpArgs false
set_option linter.unusedVariables false

theorem decode_four (s : ByteArray) (pos : Nat) : (Utf8.decode s pos).2 ≤ 4 := by
  simp only [Utf8.decode]
  repeat' split
  all_goals simp_all [Utf8.runeError]
theorem itemsFrom_four (s : ByteArray) : ∀ (fuel pos : Nat), s.size ≤ pos + fuel → s.size ≤ pos + 4 * (itemsFrom s fuel pos).length
  | 0, pos, h => by simp [itemsFrom]; omega
  | f + 1, pos, h => by
    unfold itemsFrom
    split
    · rename_i hp
      have h1 := width_pos s pos hp
      have h2 := decode_four s pos
      have := itemsFrom_four s f (pos + (Utf8.decode s pos).2) (by omega)
      simp only [List.length_cons]; omega
    · omega
/-- A name has at most 48 bytes. -/
theorem pRight_len (l : List UInt8) (h : pRight l = true) : l.length ≤ 48 := by
  have h1 := itemsFrom_four (str l) l.length 0 (by rw [str_size]; omega)
  rw [str_size] at h1
  simp only [pRight, Bool.and_eq_true, decide_eq_true_eq] at h
  have h2 := h.2.2
  unfold items at h2
  omega

/-- A letter. -/
structure Lt where
  (fr no tt : Nat) (se re bo : List UInt8)
def Lt.zero : Lt := ⟨0, 0, 0, [], [], []⟩
structure Lt.ok (x : Lt) : Prop where
  (fr : x.fr < 4294967296) (no : x.no < 4294967296) (tt : x.tt < 4294967296)
def Lt.cells (x : Lt) : Array Value := #[.int .u32 (x.fr : Int), .int .u32 (x.no : Int), .int .u32 (x.tt : Int), .string (str x.se), .string (str x.re), .string (str x.bo)]
def Lt.right (x : Lt) : Bool := if pRight x.se then (if pRight x.re then decide (x.bo.length ≤ 300) else false) else false
def Lt.bytes (x : Lt) : List UInt8 := pBig x.fr 4 ++ (pBig x.no 4 ++ (pBig x.tt 4 ++ (pText4 x.se ++ (pText4 x.re ++ pText4 x.bo))))
def Rd.l1 (r : Rd) : Nat × Rd := r.num 4
def Rd.l2 (r : Rd) : Nat × Rd := r.l1.2.num 4
def Rd.l3 (r : Rd) : Nat × Rd := r.l2.2.num 4
def Rd.l4 (r : Rd) : List UInt8 × Rd := r.l3.2.text 48
def Rd.l5 (r : Rd) : List UInt8 × Rd := r.l4.2.text 48
def Rd.l6 (r : Rd) : List UInt8 × Rd := r.l5.2.text 300
def Rd.letter (r : Rd) : Lt := ⟨r.l1.1, r.l2.1, r.l3.1, r.l4.1, r.l5.1, r.l6.1⟩
/-- The letter that bytes are, and what is wrong with them. -/
def pLRead (l : List UInt8) : Lt × Int :=
  if (⟨l, 0⟩ : Rd).l6.2.end' ≠ 0 then (Lt.zero, (⟨l, 0⟩ : Rd).l6.2.end') else if (⟨l, 0⟩ : Rd).letter.right then ((⟨l, 0⟩ : Rd).letter, 0) else (Lt.zero, 4)
theorem Rd.text_rest (r : Rd) (m : Int) : (r.text m).2.rest.length ≤ r.rest.length := Nat.le_trans (Rd.take_rest _ _) (r.len_rest m)
theorem Rd.num_rest (r : Rd) (n : Nat) : (r.num n).2.rest.length ≤ r.rest.length := Rd.take_rest _ _
theorem Rd.l1_rest (r : Rd) : r.l1.2.rest.length ≤ r.rest.length := Rd.num_rest _ _
theorem Rd.l2_rest (r : Rd) : r.l2.2.rest.length ≤ r.rest.length := Nat.le_trans (Rd.num_rest _ _) r.l1_rest
theorem Rd.l3_rest (r : Rd) : r.l3.2.rest.length ≤ r.rest.length := Nat.le_trans (Rd.num_rest _ _) r.l2_rest
theorem Rd.l4_rest (r : Rd) : r.l4.2.rest.length ≤ r.rest.length := Nat.le_trans (Rd.text_rest _ _) r.l3_rest
theorem Rd.l5_rest (r : Rd) : r.l5.2.rest.length ≤ r.rest.length := Nat.le_trans (Rd.text_rest _ _) r.l4_rest
theorem Rd.l6_rest (r : Rd) : r.l6.2.rest.length ≤ r.rest.length := Nat.le_trans (Rd.text_rest _ _) r.l5_rest
theorem Rd.letter_ok (r : Rd) : r.letter.ok := ⟨Rd.num_lt _ 4, Rd.num_lt _ 4, Rd.num_lt _ 4⟩
theorem Rd.take_len (r : Rd) (n : Nat) : (r.take n).1.length ≤ r.rest.length := by
  unfold Rd.take
  split
  · simp
  · split <;> simp
    omega
theorem Rd.text_len (r : Rd) (m : Int) : (r.text m).1.length ≤ r.rest.length := Nat.le_trans (Rd.take_len _ _) (r.len_rest m)
theorem Rd.l4_len (r : Rd) : r.l4.1.length ≤ r.rest.length := Nat.le_trans (Rd.text_len _ _) r.l3_rest
theorem Rd.l5_len (r : Rd) : r.l5.1.length ≤ r.rest.length := Nat.le_trans (Rd.text_len _ _) r.l4_rest
theorem Rd.l6_len (r : Rd) : r.l6.1.length ≤ r.rest.length := Nat.le_trans (Rd.text_len _ _) r.l5_rest
theorem text_back' (s t : List UInt8) (m : Int) (hm : (s.length : Int) ≤ m) (h : s.length < 4294967296) : (⟨pText4 s ++ t, 0⟩ : Rd).text m = (s, ⟨t, 0⟩) := by
  simp only [Rd.text, pText4, List.append_assoc, len_back s.length h m hm, take_back s t s.length rfl]
theorem Lt.right_iff (x : Lt) : x.right = true ↔ pRight x.se = true ∧ pRight x.re = true ∧ x.bo.length ≤ 300 := by
  unfold Lt.right
  cases pRight x.se <;> cases pRight x.re <;> simp
/-- What is written is read as it was. -/
theorem letter_back (x : Lt) (h : x.ok) (hr : x.right = true) : pLRead x.bytes = (x, 0) := by
  obtain ⟨r1, r2, r3⟩ := x.right_iff.1 hr
  have n1 := pRight_len _ r1
  have n2 := pRight_len _ r2
  have e1 : (⟨x.bytes, 0⟩ : Rd).l1 = (x.fr, ⟨pBig x.no 4 ++ (pBig x.tt 4 ++ (pText4 x.se ++ (pText4 x.re ++ pText4 x.bo))), 0⟩) := num_back _ 4 h.fr _
  have e2 : (⟨x.bytes, 0⟩ : Rd).l2 = (x.no, ⟨pBig x.tt 4 ++ (pText4 x.se ++ (pText4 x.re ++ pText4 x.bo)), 0⟩) := by rw [Rd.l2, e1]; exact num_back _ 4 h.no _
  have e3 : (⟨x.bytes, 0⟩ : Rd).l3 = (x.tt, ⟨pText4 x.se ++ (pText4 x.re ++ pText4 x.bo), 0⟩) := by rw [Rd.l3, e2]; exact num_back _ 4 h.tt _
  have e4 : (⟨x.bytes, 0⟩ : Rd).l4 = (x.se, ⟨pText4 x.re ++ pText4 x.bo, 0⟩) := by rw [Rd.l4, e3]; exact text_back' _ _ 48 (by omega) (by omega)
  have e5 : (⟨x.bytes, 0⟩ : Rd).l5 = (x.re, ⟨pText4 x.bo, 0⟩) := by rw [Rd.l5, e4]; exact text_back' _ _ 48 (by omega) (by omega)
  have e6 : (⟨x.bytes, 0⟩ : Rd).l6 = (x.bo, ⟨[], 0⟩) := by
    rw [Rd.l6, e5]
    have := text_back' x.bo [] 300 (by omega) (by omega)
    rwa [List.append_nil] at this
  have el : (⟨x.bytes, 0⟩ : Rd).letter = x := by rw [Rd.letter, e1, e2, e3, e4, e5, e6]
  have ee : (⟨x.bytes, 0⟩ : Rd).l6.2.end' = 0 := by rw [e6]; rfl
  unfold pLRead
  rw [el, ee, hr]
  rfl
/-- What is read is written so. -/
theorem letter_read (l : List UInt8) (h : (pLRead l).2 = 0) : (pLRead l).1.right = true ∧ (pLRead l).1.bytes = l := by
  unfold pLRead at *
  split at h
  · rename_i hn; exact absurd h hn
  · rename_i hn
    have he : (⟨l, 0⟩ : Rd).l6.2.end' = 0 := by
      apply Classical.byContradiction; exact hn
    split at h
    · rename_i hr
      rw [if_neg hn, if_pos hr]
      refine ⟨hr, ?_⟩
      obtain ⟨o6, z⟩ := Rd.end_ok _ he
      obtain ⟨o5, t6⟩ := Rd.text_ok _ _ o6
      obtain ⟨o4, t5⟩ := Rd.text_ok _ _ o5
      obtain ⟨o3, t4⟩ := Rd.text_ok _ _ o4
      obtain ⟨o2, t3⟩ := Rd.num_ok _ _ o3
      obtain ⟨o1, t2⟩ := Rd.num_ok _ _ o2
      obtain ⟨o0, t1⟩ := Rd.num_ok _ _ o1
      change l = pBig (⟨l, 0⟩ : Rd).l1.1 4 ++ (⟨l, 0⟩ : Rd).l1.2.rest at t1
      change (⟨l, 0⟩ : Rd).l1.2.rest = pBig (⟨l, 0⟩ : Rd).l2.1 4 ++ (⟨l, 0⟩ : Rd).l2.2.rest at t2
      change (⟨l, 0⟩ : Rd).l2.2.rest = pBig (⟨l, 0⟩ : Rd).l3.1 4 ++ (⟨l, 0⟩ : Rd).l3.2.rest at t3
      change (⟨l, 0⟩ : Rd).l3.2.rest = pText4 (⟨l, 0⟩ : Rd).l4.1 ++ (⟨l, 0⟩ : Rd).l4.2.rest at t4
      change (⟨l, 0⟩ : Rd).l4.2.rest = pText4 (⟨l, 0⟩ : Rd).l5.1 ++ (⟨l, 0⟩ : Rd).l5.2.rest at t5
      change (⟨l, 0⟩ : Rd).l5.2.rest = pText4 (⟨l, 0⟩ : Rd).l6.1 ++ (⟨l, 0⟩ : Rd).l6.2.rest at t6
      rw [z, List.append_nil] at t6
      show pBig (⟨l, 0⟩ : Rd).l1.1 4 ++ (pBig (⟨l, 0⟩ : Rd).l2.1 4 ++ (pBig (⟨l, 0⟩ : Rd).l3.1 4 ++ (pText4 (⟨l, 0⟩ : Rd).l4.1 ++ (pText4 (⟨l, 0⟩ : Rd).l5.1 ++ pText4 (⟨l, 0⟩ : Rd).l6.1)))) = l
      rw [← t6, ← t5, ← t4, ← t3, ← t2]; exact t1.symm
    · rename_i hr
      cases h
end Go.Proofs.YtjfnaedcdmmigaaDoor

namespace Go.Proofs.YtjfnaedcdmmigaaDoor
open Go.RowKit
set_option linter.unusedSimpArgs false
set_option linter.unusedVariables false

/-- What may be said has at most 256 bytes. -/
theorem pSays_len (l : List UInt8) (h : pSays l = true) : l.length ≤ 256 := by
  have h1 := itemsFrom_four (str l) l.length 0 (by rw [str_size]; omega)
  rw [str_size] at h1
  simp only [pSays, Bool.and_eq_true, decide_eq_true_eq] at h
  have h2 := h.2
  unfold items at h2
  omega
/-- A payload, nothing, or a number. -/
inductive Pl where
  | no | num
  | tr (o : Nat) (a b : List UInt8) (n : Nat)
  | sa (a b : List UInt8)
  | de (o : Nat) (a : List UInt8) (n : Nat)
def trCells (o : Nat) (a b : List UInt8) (n : Nat) : Array Value := #[.int .u32 (o : Int), .string (str a), .string (str b), .int .u64 (n : Int)]
def saCells (a b : List UInt8) : Array Value := #[.string (str a), .string (str b)]
def deCells (o : Nat) (a : List UInt8) (n : Nat) : Array Value := #[.int .u32 (o : Int), .string (str a), .int .u64 (n : Int)]
def Pl.val : Pl → Value
  | .no => .nilIface
  | .num => .iface 3 (.int .i64 7)
  | .tr o a b n => .iface 105 (.agg (trCells o a b n))
  | .sa a b => .iface 118 (.agg (saCells a b))
  | .de o a n => .iface 140 (.agg (deCells o a n))
def Pl.ok : Pl → Prop
  | .tr o _ _ n => o < 4294967296 ∧ n < 18446744073709551616
  | .de o _ n => o < 4294967296 ∧ n < 18446744073709551616
  | _ => True
/-- Its texts have at most so many bytes. -/
def Pl.most (m : Nat) : Pl → Prop
  | .tr _ a b _ => a.length ≤ m ∧ b.length ≤ m
  | .sa a b => a.length ≤ m ∧ b.length ≤ m
  | .de _ a _ => a.length ≤ m
  | _ => True
def Pl.tag : Pl → Nat
  | .tr .. => 1
  | .sa .. => 2
  | .de .. => 3
  | _ => 0
def Pl.right : Pl → Bool
  | .tr _ a b n => if pRight a then (if pRight b then !decide (n = 0) else false) else false
  | .sa a b => if pRight a then pSays b else false
  | .de _ a _ => pRight a
  | _ => false
def Pl.fields : Pl → List UInt8
  | .tr o a b n => pBig o 4 ++ (pText4 a ++ (pText4 b ++ pBig n 8))
  | .sa a b => pText4 a ++ pText4 b
  | .de o a n => pBig o 4 ++ (pText4 a ++ pBig n 8)
  | _ => []
def Pl.bytes (p : Pl) : List UInt8 × Int := if p.tag = 0 then ([], 2) else if p.right then (pBig p.tag 1 ++ p.fields, 0) else ([], 4)

def Rd.tr (r : Rd) : Pl := .tr (r.num 4).1 ((r.num 4).2.text 48).1 (((r.num 4).2.text 48).2.text 48).1 ((((r.num 4).2.text 48).2.text 48).2.num 8).1
def Rd.trR (r : Rd) : Rd := ((((r.num 4).2.text 48).2.text 48).2.num 8).2
def Rd.sa (r : Rd) : Pl := .sa (r.text 48).1 ((r.text 48).2.text 256).1
def Rd.saR (r : Rd) : Rd := ((r.text 48).2.text 256).2
def Rd.de (r : Rd) : Pl := .de (r.num 4).1 ((r.num 4).2.text 48).1 (((r.num 4).2.text 48).2.num 8).1
def Rd.deR (r : Rd) : Rd := (((r.num 4).2.text 48).2.num 8).2
/-- A payload off the front. -/
def Rd.pl (r : Rd) : Pl × Rd :=
  if (r.num 1).1 = 1 then ((r.num 1).2.tr, (r.num 1).2.trR) else
  if (r.num 1).1 = 2 then ((r.num 1).2.sa, (r.num 1).2.saR) else
  if (r.num 1).1 = 3 then ((r.num 1).2.de, (r.num 1).2.deR) else (.no, (r.num 1).2.fail 4)
/-- The payload that bytes are, and what is wrong with them. -/
def pPRead (l : List UInt8) : Pl × Int :=
  if (⟨l, 0⟩ : Rd).pl.2.end' ≠ 0 then (.no, (⟨l, 0⟩ : Rd).pl.2.end') else if (⟨l, 0⟩ : Rd).pl.1.right then ((⟨l, 0⟩ : Rd).pl.1, 0) else (.no, 4)

theorem Rd.num_lt8 (r : Rd) : (r.num 8).1 < 18446744073709551616 := Rd.num_lt r 8
theorem Rd.pl_ok (r : Rd) : r.pl.1.ok := by
  unfold Rd.pl
  split
  · exact ⟨Rd.num_lt _ 4, Rd.num_lt _ 8⟩
  · split
    · trivial
    · split
      · exact ⟨Rd.num_lt _ 4, Rd.num_lt _ 8⟩
      · trivial
theorem Rd.pl_most (r : Rd) : r.pl.1.most r.rest.length := by
  have h1 := r.num_rest 1
  have h2 := (r.num 1).2.num_rest 4
  have h3 := ((r.num 1).2.num 4).2.text_rest 48
  have h4 := (r.num 1).2.text_rest 48
  have l1 := ((r.num 1).2.num 4).2.text_len 48
  have l2 := (((r.num 1).2.num 4).2.text 48).2.text_len 48
  have l3 := (r.num 1).2.text_len 48
  have l4 := ((r.num 1).2.text 48).2.text_len 256
  unfold Rd.pl
  split
  · refine ⟨?_, ?_⟩ <;> omega
  · split
    · refine ⟨?_, ?_⟩ <;> omega
    · split
      · show _ ≤ _
        omega
      · trivial
theorem pPRead_ok (l : List UInt8) : (pPRead l).1.ok ∧ (pPRead l).1.most l.length := by
  unfold pPRead
  split
  · exact ⟨trivial, trivial⟩
  · split
    · exact ⟨Rd.pl_ok _, Rd.pl_most _⟩
    · exact ⟨trivial, trivial⟩
theorem tr_right (o : Nat) (a b : List UInt8) (n : Nat) : (Pl.tr o a b n).right = true ↔ pRight a = true ∧ pRight b = true ∧ n ≠ 0 := by
  simp only [Pl.right]
  cases pRight a <;> cases pRight b <;> simp
theorem sa_right (a b : List UInt8) : (Pl.sa a b).right = true ↔ pRight a = true ∧ pSays b = true := by
  simp only [Pl.right]
  cases pRight a <;> simp
theorem num_back' (n k : Nat) (h : n < 256 ^ k) : (⟨pBig n k, 0⟩ : Rd).num k = (n, ⟨[], 0⟩) := by
  have := num_back n k h []
  rwa [List.append_nil] at this
/-- What is written is read as it was. -/
theorem pl_back (p : Pl) (h : p.ok) (e : p.bytes.2 = 0) : pPRead p.bytes.1 = (p, 0) ∧ p.tag ≠ 0 := by
  have ht : p.tag ≠ 0 := fun h0 => by simp [Pl.bytes, h0] at e
  have hr : p.right = true := by
    cases hr : p.right with
    | true => rfl
    | false => simp [Pl.bytes, ht, hr] at e
  refine ⟨?_, ht⟩
  have eb : p.bytes.1 = pBig p.tag 1 ++ p.fields := by simp [Pl.bytes, ht, hr]
  have e0 : (⟨p.bytes.1, 0⟩ : Rd).num 1 = (p.tag, ⟨p.fields, 0⟩) := by
    rw [eb]
    exact num_back _ 1 (by cases p <;> simp [Pl.tag]) _
  have key : (⟨p.bytes.1, 0⟩ : Rd).pl = (p, ⟨[], 0⟩) := by
    unfold Rd.pl
    rw [e0]
    cases p with
    | no => exact absurd rfl ht
    | num => exact absurd rfl ht
    | tr o a b n =>
      obtain ⟨r1, r2, r3⟩ := (tr_right o a b n).1 hr
      have n1 := pRight_len _ r1
      have n2 := pRight_len _ r2
      have k1 := num_back o 4 h.1 (pText4 a ++ (pText4 b ++ pBig n 8))
      have k2 := text_back' a (pText4 b ++ pBig n 8) 48 (by omega) (by omega)
      have k3 := text_back' b (pBig n 8) 48 (by omega) (by omega)
      have k4 := num_back' n 8 h.2
      simp only [Pl.tag, Pl.fields, Rd.tr, Rd.trR, if_true, k1, k2, k3, k4]
    | sa a b =>
      obtain ⟨r1, r2⟩ := (sa_right a b).1 hr
      have n1 := pRight_len _ r1
      have n2 := pSays_len _ r2
      have k2 := text_back' a (pText4 b) 48 (by omega) (by omega)
      have k3 := text_back' b [] 256 (by omega) (by omega)
      rw [List.append_nil] at k3
      simp only [Pl.tag, Pl.fields, Rd.sa, Rd.saR, if_true, k2, k3]
      rfl
    | de o a n =>
      have n1 := pRight_len a hr
      have k1 := num_back o 4 h.1 (pText4 a ++ pBig n 8)
      have k2 := text_back' a (pBig n 8) 48 (by omega) (by omega)
      have k4 := num_back' n 8 h.2
      simp only [Pl.tag, Pl.fields, Rd.de, Rd.deR, if_true, k1, k2, k4]
      rfl
  unfold pPRead
  rw [key]
  simp [Rd.end', hr]
theorem Rd.pl_read (r : Rd) (he : r.pl.2.end' = 0) (hr : r.pl.1.right = true) : pBig r.pl.1.tag 1 ++ r.pl.1.fields = r.rest ∧ r.pl.1.tag ≠ 0 := by
  obtain ⟨o, z⟩ := Rd.end_ok _ he
  clear he
  by_cases hb : (r.num 1).1 = 1
  · have e : r.pl = ((r.num 1).2.tr, (r.num 1).2.trR) := by unfold Rd.pl; rw [if_pos hb]
    rw [e] at o z hr ⊢
    simp only [Rd.trR, Rd.tr] at o z hr ⊢
    obtain ⟨o3, t4⟩ := Rd.num_ok _ _ o
    obtain ⟨o2, t3⟩ := Rd.text_ok _ _ o3
    obtain ⟨o1, t2⟩ := Rd.text_ok _ _ o2
    obtain ⟨o0, t1⟩ := Rd.num_ok _ _ o1
    obtain ⟨_, t0⟩ := Rd.num_ok _ _ o0
    rw [z, List.append_nil] at t4
    rw [hb] at t0
    refine ⟨?_, by simp [Pl.tag]⟩
    simp only [Pl.tag, Pl.fields]
    rw [← t4, ← t3, ← t2, ← t1, ← t0]
  · by_cases hc : (r.num 1).1 = 2
    · have e : r.pl = ((r.num 1).2.sa, (r.num 1).2.saR) := by unfold Rd.pl; rw [if_neg hb, if_pos hc]
      rw [e] at o z hr ⊢
      simp only [Rd.saR, Rd.sa] at o z hr ⊢
      obtain ⟨o2, t3⟩ := Rd.text_ok _ _ o
      obtain ⟨o1, t2⟩ := Rd.text_ok _ _ o2
      obtain ⟨_, t0⟩ := Rd.num_ok _ _ o1
      rw [z, List.append_nil] at t3
      rw [hc] at t0
      refine ⟨?_, by simp [Pl.tag]⟩
      simp only [Pl.tag, Pl.fields]
      rw [← t3, ← t2, ← t0]
    · by_cases hd : (r.num 1).1 = 3
      · have e : r.pl = ((r.num 1).2.de, (r.num 1).2.deR) := by unfold Rd.pl; rw [if_neg hb, if_neg hc, if_pos hd]
        rw [e] at o z hr ⊢
        simp only [Rd.deR, Rd.de] at o z hr ⊢
        obtain ⟨o3, t4⟩ := Rd.num_ok _ _ o
        obtain ⟨o2, t3⟩ := Rd.text_ok _ _ o3
        obtain ⟨o1, t2⟩ := Rd.num_ok _ _ o2
        obtain ⟨_, t0⟩ := Rd.num_ok _ _ o1
        rw [z, List.append_nil] at t4
        rw [hd] at t0
        refine ⟨?_, by simp [Pl.tag]⟩
        simp only [Pl.tag, Pl.fields]
        rw [← t4, ← t3, ← t2, ← t0]
      · have e : r.pl = (.no, (r.num 1).2.fail 4) := by unfold Rd.pl; rw [if_neg hb, if_neg hc, if_neg hd]
        rw [e] at hr
        cases hr
/-- What is read is written so. -/
theorem pl_read (l : List UInt8) (h : (pPRead l).2 = 0) : (pPRead l).1.bytes = (l, 0) := by
  unfold pPRead at *
  split at h
  · rename_i hn; exact absurd h hn
  · rename_i hn
    have he : (⟨l, 0⟩ : Rd).pl.2.end' = 0 := by
      apply Classical.byContradiction; exact hn
    split at h
    · rename_i hr
      rw [if_neg hn, if_pos hr]
      obtain ⟨a, b⟩ := Rd.pl_read _ he hr
      unfold Pl.bytes
      rw [if_neg b, if_pos hr, a]
    · cases h
end Go.Proofs.YtjfnaedcdmmigaaDoor

namespace Go.Proofs.YtjfnaedcdmmigaaDoor
open Go.RowKit
set_option linter.unusedSimpArgs false
set_option linter.unusedVariables false

theorem as_hit_tr (v : Value) (x : TypeId) (w : World) : (Instr.typeAssert (.iface 105 v) x 105 true).run Tryd.prog w = .ok (.tuple #[v, .bool true]) w := by
  simp [Instr.typeAssert, run_underlying Tryd.underlying105, go_sem]
theorem as_nil_tr (x : TypeId) (w : World) : (Instr.typeAssert .nilIface x 105 true).run Tryd.prog w = .ok (.tuple #[.agg (trCells 0 [] [] 0), .bool false]) w := by
  simp [Instr.typeAssert, run_underlying Tryd.underlying105, go_sem]
  rfl
theorem as_miss_tr (t : TypeId) (ht : t ≠ 105) (v : Value) (x : TypeId) (w : World) : (Instr.typeAssert (.iface t v) x 105 true).run Tryd.prog w = .ok (.tuple #[.agg (trCells 0 [] [] 0), .bool false]) w := by
  simp [Instr.typeAssert, run_underlying Tryd.underlying105, go_sem, ht]
  rfl
theorem as_hit_sa (v : Value) (x : TypeId) (w : World) : (Instr.typeAssert (.iface 118 v) x 118 true).run Tryd.prog w = .ok (.tuple #[v, .bool true]) w := by
  simp [Instr.typeAssert, run_underlying Tryd.underlying118, go_sem]
theorem as_nil_sa (x : TypeId) (w : World) : (Instr.typeAssert .nilIface x 118 true).run Tryd.prog w = .ok (.tuple #[.agg (saCells [] []), .bool false]) w := by
  simp [Instr.typeAssert, run_underlying Tryd.underlying118, go_sem]
  rfl
theorem as_miss_sa (t : TypeId) (ht : t ≠ 118) (v : Value) (x : TypeId) (w : World) : (Instr.typeAssert (.iface t v) x 118 true).run Tryd.prog w = .ok (.tuple #[.agg (saCells [] []), .bool false]) w := by
  simp [Instr.typeAssert, run_underlying Tryd.underlying118, go_sem, ht]
  rfl
theorem as_hit_de (v : Value) (x : TypeId) (w : World) : (Instr.typeAssert (.iface 140 v) x 140 true).run Tryd.prog w = .ok (.tuple #[v, .bool true]) w := by
  simp [Instr.typeAssert, run_underlying Tryd.underlying140, go_sem]
theorem as_nil_de (x : TypeId) (w : World) : (Instr.typeAssert .nilIface x 140 true).run Tryd.prog w = .ok (.tuple #[.agg (deCells 0 [] 0), .bool false]) w := by
  simp [Instr.typeAssert, run_underlying Tryd.underlying140, go_sem]
  rfl
theorem as_miss_de (t : TypeId) (ht : t ≠ 140) (v : Value) (x : TypeId) (w : World) : (Instr.typeAssert (.iface t v) x 140 true).run Tryd.prog w = .ok (.tuple #[.agg (deCells 0 [] 0), .bool false]) w := by
  simp [Instr.typeAssert, run_underlying Tryd.underlying140, go_sem, ht]
  rfl
def Pl.trC : Pl → Array Value
  | .tr o a b n => trCells o a b n
  | _ => trCells 0 [] [] 0
def Pl.isTr : Pl → Bool
  | .tr .. => true
  | _ => false
def Pl.saC : Pl → Array Value
  | .sa a b => saCells a b
  | _ => saCells [] []
def Pl.isSa : Pl → Bool
  | .sa .. => true
  | _ => false
def Pl.deC : Pl → Array Value
  | .de o a n => deCells o a n
  | _ => deCells 0 [] 0
def Pl.isDe : Pl → Bool
  | .de .. => true
  | _ => false
theorem as_tr (p : Pl) (x : TypeId) (w : World) : (Instr.typeAssert p.val x 105 true).run Tryd.prog w = .ok (.tuple #[.agg p.trC, .bool p.isTr]) w := by
  cases p with
  | no => exact as_nil_tr x w
  | num => exact as_miss_tr _ (by decide) _ x w
  | tr o a b n => exact as_hit_tr _ x w
  | sa a b => exact as_miss_tr _ (by decide) _ x w
  | de o a n => exact as_miss_tr _ (by decide) _ x w
theorem as_sa (p : Pl) (x : TypeId) (w : World) : (Instr.typeAssert p.val x 118 true).run Tryd.prog w = .ok (.tuple #[.agg p.saC, .bool p.isSa]) w := by
  cases p with
  | no => exact as_nil_sa x w
  | num => exact as_miss_sa _ (by decide) _ x w
  | tr o a b n => exact as_miss_sa _ (by decide) _ x w
  | sa a b => exact as_hit_sa _ x w
  | de o a n => exact as_miss_sa _ (by decide) _ x w
theorem as_de (p : Pl) (x : TypeId) (w : World) : (Instr.typeAssert p.val x 140 true).run Tryd.prog w = .ok (.tuple #[.agg p.deC, .bool p.isDe]) w := by
  cases p with
  | no => exact as_nil_de x w
  | num => exact as_miss_de _ (by decide) _ x w
  | tr o a b n => exact as_miss_de _ (by decide) _ x w
  | sa a b => exact as_miss_de _ (by decide) _ x w
  | de o a n => exact as_hit_de _ x w
set_option maxRecDepth 100000 in
theorem tag_calls (p : Pl) (w : World) :
    Calls Tryd.prog 85 #[p.val] w fun e w' => e = .returned (.int .i64 (p.tag : Int)) ∧ w' = w := by
  have h1 := as_tr p
  have h2 := as_sa p
  have h3 := as_de p
  generalize p.trC = C1 at *
  generalize p.saC = C2 at *
  generalize p.deC = C3 at *
  generalize hV : p.val = V at *
  cases p
  · simp only [Pl.isTr, Pl.isSa, Pl.isDe, Pl.tag] at *
    clear hV
    go_enter Tryd.func85, Tryd.ntmps85
    go_wp2
    go_ret
    exact ⟨rfl, rfl⟩
  · simp only [Pl.isTr, Pl.isSa, Pl.isDe, Pl.tag] at *
    clear hV
    go_enter Tryd.func85, Tryd.ntmps85
    go_wp2
    go_ret
    exact ⟨rfl, rfl⟩
  · simp only [Pl.isTr, Pl.isSa, Pl.isDe, Pl.tag] at *
    clear hV
    go_enter Tryd.func85, Tryd.ntmps85
    go_wp2
    go_ret
    exact ⟨rfl, rfl⟩
  · simp only [Pl.isTr, Pl.isSa, Pl.isDe, Pl.tag] at *
    clear hV
    go_enter Tryd.func85, Tryd.ntmps85
    go_wp2
    go_ret
    exact ⟨rfl, rfl⟩
  · simp only [Pl.isTr, Pl.isSa, Pl.isDe, Pl.tag] at *
    clear hV
    go_enter Tryd.func85, Tryd.ntmps85
    go_wp2
    go_ret
    exact ⟨rfl, rfl⟩
end Go.Proofs.YtjfnaedcdmmigaaDoor

namespace Go.Proofs.YtjfnaedcdmmigaaDoor
open Go.RowKit
set_option linter.unusedSimpArgs false
set_option linter.unusedVariables false

theorem wlong_calls (n : Nat) (w : World) :
    Calls Tryd.prog 110 #[.int .u64 (n : Int)] w fun e w' => e = .returned (.string (str (pBig n 8))) ∧ Below w.heap.size w w' := by
  have hc := number_calls n 8 (by decide) (by decide) w
  generalize pBig n 8 = B at *
  have Hc := hide hc
  clear hc
  go_enter Tryd.func110, Tryd.ntmps110
  go_wp2_with fail
  refine (unhide Hc).mono ?_
  rintro e w' ⟨rfl, hb⟩
  go_wp2
  go_ret
  exact ⟨rfl, hb⟩
set_option maxRecDepth 100000 in
theorem mayBe_calls (p : Pl) (hp : p.most 4611686018427387904) (w : World) :
    Calls Tryd.prog 86 #[p.val] w fun e w' => e = .returned (.bool p.right) ∧ Below w.heap.size w w' := by
  have h1 := as_tr p
  have h2 := as_sa p
  have h3 := as_de p
  generalize hV : p.val = V at *
  have hr0 := Below.refl w.heap.size w
  cases p with
  | no =>
    simp only [Pl.isTr, Pl.isSa, Pl.isDe, Pl.right, Pl.trC, Pl.saC, Pl.deC] at *
    generalize trCells _ _ _ _ = C1 at *
    generalize saCells _ _ = C2 at *
    generalize deCells _ _ _ = C3 at *
    clear hV
    go_enter Tryd.func86, Tryd.ntmps86
    go_wp2
    go_ret
    exact ⟨rfl, hr0⟩
  | num =>
    simp only [Pl.isTr, Pl.isSa, Pl.isDe, Pl.right, Pl.trC, Pl.saC, Pl.deC] at *
    generalize trCells _ _ _ _ = C1 at *
    generalize saCells _ _ = C2 at *
    generalize deCells _ _ _ = C3 at *
    clear hV
    go_enter Tryd.func86, Tryd.ntmps86
    go_wp2
    go_ret
    exact ⟨rfl, hr0⟩
  | tr o a b n =>
    simp only [Pl.isTr, Pl.isSa, Pl.isDe, Pl.right, Pl.trC, Pl.saC, Pl.deC] at *
    have k1 := hide fun W => right_calls a hp.1 W
    have k2 := hide fun W => right_calls b hp.2 W
    generalize pRight a = x at *
    generalize pRight b = y at *
    have hn : (((n : Int) != 0) = !decide (n = 0)) := by
      by_cases h : n = 0
      · subst h; rfl
      · have : ((n : Int) != 0) = true := by simp; omega
        rw [this]; simp [h]
    generalize saCells _ _ = C2 at *
    generalize deCells _ _ _ = C3 at *
    clear hV hp
    unfold trCells at h1
    have hb0 := (Below.refl w.heap.size w).alloc (Nat.le_refl _) (.cells #[.int .u32 (o : Int), .string (str a), .string (str b), .int .u64 (n : Int)] 105)
    go_enter Tryd.func86, Tryd.ntmps86
    go_wp2_with fail
    refine (unhide k1 _).mono ?_
    rintro e w1 ⟨rfl, b1⟩
    obtain ⟨c1, -, z1, -⟩ := alloc_kept b1
    have hb1 := hb0.trans (b1.mono (by simp))
    have d1 := c1 2
    have d2 := c1 3
    simp only [List.getElem?_toArray, List.getElem?_cons_succ, List.getElem?_cons_zero] at d1 d2
    clear c1 b1 hb0 k1
    cases x with
    | false =>
      go_wp2_with fail
      go_ret
      exact ⟨rfl, hb1⟩
    | true =>
      go_wp2_with fail
      refine (unhide k2 _).mono ?_
      rintro e w2 ⟨rfl, b2⟩
      have d3 := ((bcell b2).1 w.heap.size 3 z1).trans d2
      have hb2 := hb1.trans (b2.mono (Nat.le_of_lt z1))
      clear d1 d2
      cases y with
      | false =>
        go_wp2_with fail
        go_ret
        exact ⟨rfl, hb2⟩
      | true =>
        go_wp2_with fail
        go_ret
        exact ⟨rfl, hb2⟩
  | sa a b =>
    simp only [Pl.isTr, Pl.isSa, Pl.isDe, Pl.right, Pl.trC, Pl.saC, Pl.deC] at *
    have k1 := hide fun W => right_calls a hp.1 W
    have k2 := hide fun W => says_calls b hp.2 W
    generalize pRight a = x at *
    generalize pSays b = y at *
    generalize trCells _ _ _ _ = C2 at *
    generalize deCells _ _ _ = C3 at *
    clear hV hp
    unfold saCells at h2
    have hb0 := (Below.refl w.heap.size w).alloc (Nat.le_refl _) (.cells #[.string (str a), .string (str b)] 118)
    go_enter Tryd.func86, Tryd.ntmps86
    go_wp2_with fail
    refine (unhide k1 _).mono ?_
    rintro e w1 ⟨rfl, b1⟩
    obtain ⟨c1, -, z1, -⟩ := alloc_kept b1
    have hb1 := hb0.trans (b1.mono (by simp))
    have d1 := c1 1
    simp only [List.getElem?_toArray, List.getElem?_cons_succ, List.getElem?_cons_zero] at d1
    clear c1 b1 hb0 k1
    cases x with
    | false =>
      go_wp2_with fail
      go_ret
      exact ⟨rfl, hb1⟩
    | true =>
      go_wp2_with fail
      refine (unhide k2 _).mono ?_
      rintro e w2 ⟨rfl, b2⟩
      have hb2 := hb1.trans (b2.mono (Nat.le_of_lt z1))
      go_wp2_with fail
      go_ret
      exact ⟨rfl, hb2⟩
  | de o a n =>
    simp only [Pl.isTr, Pl.isSa, Pl.isDe, Pl.right, Pl.trC, Pl.saC, Pl.deC] at *
    have k1 := hide fun W => right_calls a hp W
    generalize pRight a = x at *
    generalize trCells _ _ _ _ = C2 at *
    generalize saCells _ _ = C3 at *
    clear hV hp
    unfold deCells at h3
    have hb0 := (Below.refl w.heap.size w).alloc (Nat.le_refl _) (.cells #[.int .u32 (o : Int), .string (str a), .int .u64 (n : Int)] 140)
    go_enter Tryd.func86, Tryd.ntmps86
    go_wp2_with fail
    refine (unhide k1 _).mono ?_
    rintro e w1 ⟨rfl, b1⟩
    have hb1 := hb0.trans (b1.mono (by simp))
    go_wp2_with fail
    go_ret
    exact ⟨rfl, hb1⟩
end Go.Proofs.YtjfnaedcdmmigaaDoor
