/-
  WHAT sha's Begin AND Add RETURN.
-/
/-
  BYTES AS CELLS OF MEMORY; numbers of eight bytes, the highest first. Plain definitions and lemmas.
-/
/-
  WHAT sha.padding RETURNS.
-/
/-
  WHAT sha's End RETURNS.
-/
/-
  WHAT sha.Sum RETURNS.
-/
/-
  WHAT digest's inputOf RETURNS; what Of returns where there is no log.
-/
/-
  WHAT THE DOCUMENT'S OWN ANSWERS OF LAYER 3 RETURN: Big, Text, Bytes.
-/
/-
  WHAT THE REFERENCE'S turn, constants AND First RETURN.
-/
/-
  BYTES IN MEMORY FROM A PLACE ON; '[]byte(s)' UNDER A NAME OF ITS OWN: the world behind it, its capacity, and what is known of them.
-/
import Derived.Test.YtonmccmeljeopaaDoorJ0
import Derived.Deep.RegionHeld3
import Derived.Deep.DeepCutAuto
import Derived.Laws.IdiomStrings
import Derived.Great.BuildSlice
namespace Go.Proofs.YtonmccmeljeopaaDoor
open Go.RowKit
set_option linter.unusedSimpArgs false
set_option linter.unusedVariables false

theorem Tabs.below' {w w' : World} (t : Tabs w) (hb : Below w.heap.size w w') : Tabs w' := t.below hb (Nat.le_refl _)

set_option maxHeartbeats 400000 in
set_option maxRecDepth 100000 in
theorem begin_calls (w : World) (tabs : Tabs w) :
    Calls Tryd.prog 61 #[] w fun e w' => e = .returned (.agg pBegin.cells) ∧ Below w.heap.size w w' := by
  have k0 : w.cell? ⟨0, 0, none⟩ = some (.int .u32 1779033703) := tabs.h 0 (by decide)
  have k1 : w.cell? ⟨0, 1, none⟩ = some (.int .u32 3144134277) := tabs.h 1 (by decide)
  have k2 : w.cell? ⟨0, 2, none⟩ = some (.int .u32 1013904242) := tabs.h 2 (by decide)
  have k3 : w.cell? ⟨0, 3, none⟩ = some (.int .u32 2773480762) := tabs.h 3 (by decide)
  have k4 : w.cell? ⟨0, 4, none⟩ = some (.int .u32 1359893119) := tabs.h 4 (by decide)
  have k5 : w.cell? ⟨0, 5, none⟩ = some (.int .u32 2600822924) := tabs.h 5 (by decide)
  have k6 : w.cell? ⟨0, 6, none⟩ = some (.int .u32 528734635) := tabs.h 6 (by decide)
  have k7 : w.cell? ⟨0, 7, none⟩ = some (.int .u32 1541459225) := tabs.h 7 (by decide)
  have hz := tabs.size
  go_enter Tryd.func61, Tryd.ntmps61
  go_wp2
  exact bodyPost_ret (results_cell_row rfl _ _ w.heap.size _ _ _ _ rfl (al1 _ _) Tryd.underlying106 rfl (by kernel_rfl)) rfl ⟨rfl, (Below.refl _ _).alloc (Nat.le_refl _) _⟩

set_option maxHeartbeats 400000 in
set_option maxRecDepth 100000 in
theorem add_calls (st : St) (l : List UInt8) (hl : st.rest.length + l.length ≤ 140737488355328) (w : World) (tabs : Tabs w) :
    Calls Tryd.prog 62 #[.agg st.cells, .string (str l)] w fun e w' => e = .returned (.agg (pAdd st l).cells) ∧ Below w.heap.size w w' := by
  obtain ⟨⟨a, b, c, d, e, f, g, h⟩, rest, count⟩ := st
  simp only [St.cells]
  have hl : rest.length + l.length ≤ 140737488355328 := hl
  have ea := append_str rest l
  have n1 : ¬ 9223372036854775807 < rest.length + l.length := by omega
  go_enter Tryd.func62, Tryd.ntmps62
  go_wp2_with fail
  refine (through_lit a b c d e f g h (rest ++ l) (by simp [maxLen]; omega) _ (tabs.below' (bel2 _ _ _))).mono ?_
  rintro en w1 ⟨r0, r1, r2, r3, r4, r5, r6, r7, m, rfl, HT, hb1⟩
  have z1 : w.heap.size + 1 + 1 ≤ w1.heap.size := by have := hb1.size; simpa using this
  have q0 := Below.at hb1 (by simp; omega) (al2 _ _ _).1
  have q1 := Below.at hb1 (by simp) (al2 _ _ _).2
  have hb : Below w.heap.size w w1 := (bel2 _ _ _).trans (hb1.mono (by simp; omega))
  clear hb1
  have Q0 := hide q0
  have Q1 := hide q1
  clear q0 q1
  go_wp2_with fail
  have q2 := al1 w1 (.cells #[.int .u32 (r0.toNat : Int), .int .u32 (r1.toNat : Int), .int .u32 (r2.toNat : Int), .int .u32 (r3.toNat : Int), .int .u32 (r4.toNat : Int), .int .u32 (r5.toNat : Int), .int .u32 (r6.toNat : Int), .int .u32 (r7.toNat : Int)] 100)
  have q0 := Below.at ((Below.refl w1.heap.size w1).alloc (Nat.le_refl _) (.cells #[.int .u32 (r0.toNat : Int), .int .u32 (r1.toNat : Int), .int .u32 (r2.toNat : Int), .int .u32 (r3.toNat : Int), .int .u32 (r4.toNat : Int), .int .u32 (r5.toNat : Int), .int .u32 (r6.toNat : Int), .int .u32 (r7.toNat : Int)] 100)) (by omega) (unhide Q0)
  have q1 := Below.at ((Below.refl w1.heap.size w1).alloc (Nat.le_refl _) (.cells #[.int .u32 (r0.toNat : Int), .int .u32 (r1.toNat : Int), .int .u32 (r2.toNat : Int), .int .u32 (r3.toNat : Int), .int .u32 (r4.toNat : Int), .int .u32 (r5.toNat : Int), .int .u32 (r6.toNat : Int), .int .u32 (r7.toNat : Int)] 100)) (by omega) (unhide Q1)
  have hb2 := hb.alloc (by omega) (.cells #[.int .u32 (r0.toNat : Int), .int .u32 (r1.toNat : Int), .int .u32 (r2.toNat : Int), .int .u32 (r3.toNat : Int), .int .u32 (r4.toNat : Int), .int .u32 (r5.toNat : Int), .int .u32 (r6.toNat : Int), .int .u32 (r7.toNat : Int)] 100)
  generalize hw2 : w1.alloc (.cells #[.int .u32 (r0.toNat : Int), .int .u32 (r1.toNat : Int), .int .u32 (r2.toNat : Int), .int .u32 (r3.toNat : Int), .int .u32 (r4.toNat : Int), .int .u32 (r5.toNat : Int), .int .u32 (r6.toNat : Int), .int .u32 (r7.toNat : Int)] 100) = w2 at *
  have z2 : w2.heap.size = w1.heap.size + 1 := by rw [← hw2]; simp
  have c0 : ∀ d os, (Sort.grow (redrawn w2 d) os).cell? ⟨w1.heap.size, 0, none⟩ = some (.int .u32 (r0.toNat : Int)) := cell_regrown (cell_of_row _ _ _ _ _ _ q2)
  have c1 : ∀ d os, (Sort.grow (redrawn w2 d) os).cell? ⟨w1.heap.size, 1, none⟩ = some (.int .u32 (r1.toNat : Int)) := cell_regrown (cell_of_row _ _ _ _ _ _ q2)
  have c2 : ∀ d os, (Sort.grow (redrawn w2 d) os).cell? ⟨w1.heap.size, 2, none⟩ = some (.int .u32 (r2.toNat : Int)) := cell_regrown (cell_of_row _ _ _ _ _ _ q2)
  have c3 : ∀ d os, (Sort.grow (redrawn w2 d) os).cell? ⟨w1.heap.size, 3, none⟩ = some (.int .u32 (r3.toNat : Int)) := cell_regrown (cell_of_row _ _ _ _ _ _ q2)
  have c4 : ∀ d os, (Sort.grow (redrawn w2 d) os).cell? ⟨w1.heap.size, 4, none⟩ = some (.int .u32 (r4.toNat : Int)) := cell_regrown (cell_of_row _ _ _ _ _ _ q2)
  have c5 : ∀ d os, (Sort.grow (redrawn w2 d) os).cell? ⟨w1.heap.size, 5, none⟩ = some (.int .u32 (r5.toNat : Int)) := cell_regrown (cell_of_row _ _ _ _ _ _ q2)
  have c6 : ∀ d os, (Sort.grow (redrawn w2 d) os).cell? ⟨w1.heap.size, 6, none⟩ = some (.int .u32 (r6.toNat : Int)) := cell_regrown (cell_of_row _ _ _ _ _ _ q2)
  have c7 : ∀ d os, (Sort.grow (redrawn w2 d) os).cell? ⟨w1.heap.size, 7, none⟩ = some (.int .u32 (r7.toNat : Int)) := cell_regrown (cell_of_row _ _ _ _ _ _ q2)
  have c9 : ∀ d os, (Sort.grow (redrawn w2 d) os).cell? ⟨w.heap.size, 9, none⟩ = some (.int .u64 (count.toNat : Int)) := cell_regrown (cell_of_row _ _ _ _ _ _ q0)
  obtain ⟨x, hx, ex⟩ : ∃ x : BitVec 64, Hid (BitVec.ofNat 64 l.length = x) ∧ IntKind.u64.wrap (l.length : Int) = (x.toNat : Int) := ⟨_, rfl, by rw [IntKind.wrap_u64]; simp⟩
  have hm := pThrough_rest_le ⟨a, b, c, d, e, f, g, h⟩ (rest ++ l)
  rw [unhide HT] at hm
  have hcl : ∀ d os, _ := fun d os => Calls.regrown_of (w := w2) (d := d) (os := os) (clone_calls (str m) _ (by simp; simp at hm; omega))
  have aw := a64_wrap
  clear hw2 hb Q0 Q1 hm
  have Q1 := hide q1
  clear q0 q1 q2
  refine wp_region_below_tail 10 mixed (by kernel_rfl) ?_
  simp only [List.take_succ_cons, List.take_zero, List.drop_succ_cons, List.drop_zero]
  repeat (quiet_step (exact hcl _ _))
  refine wpQuiet_nil ?_
  intro w3 hb3
  have q1' := Below.at hb3 (by omega) (unhide Q1)
  have hst : pAdd ⟨⟨a, b, c, d, e, f, g, h⟩, rest, count⟩ l = ⟨⟨r0, r1, r2, r3, r4, r5, r6, r7⟩, m, add64 count x⟩ := by
    simp only [pAdd]; rw [unhide HT, unhide hx]
  have Hst := hide hst
  clear hst Q1
  have hi : (Tryd.prog.info? 106).map (·.size) = some (St.mk ⟨r0, r1, r2, r3, r4, r5, r6, r7⟩ m (add64 count x)).cells.size := by show _ = some 10; kernel_rfl
  have ho := St.oneCell ⟨⟨r0, r1, r2, r3, r4, r5, r6, r7⟩, m, add64 count x⟩
  go_wp2_with (refine wpList_store_row rfl 106 (.tmp 4) (.tmp 26) rfl (w.heap.size + 1) _ rfl rfl 106 _ q1' hi rfl ho ?_)
  exact bodyPost_ret (results_cell_row rfl _ _ (w.heap.size + 1) _ _ _ _ rfl (setRow_heap _ _ _ _ _ _ q1') Tryd.underlying106 rfl hi) rfl ⟨by rw [unhide Hst], below_setRow (hb2.trans (hb3.mono (by omega))) (by simp) _⟩
end Go.Proofs.YtonmccmeljeopaaDoor

namespace Go.Proofs.YtonmccmeljeopaaDoor
open Go.RowKit
set_option linter.unusedSimpArgs false

/-- A number's eight bytes, the highest first. -/
def be64 (x : BitVec 64) : List UInt8 := (List.range 8).map fun i => UInt8.ofNat (x.toNat / 2 ^ (56 - 8 * i))
theorem be64_length (x : BitVec 64) : (be64 x).length = 8 := by simp [be64]
theorem be64_at (x : BitVec 64) (i : Nat) (h : i < 8) : (be64 x).getD i 0 = UInt8.ofNat (x.toNat / 2 ^ (56 - 8 * i)) := by
  simp [be64, h]
/-- How many noughts stand behind the byte 80. -/
def noughts (rest : Nat) : Nat := (119 - rest % 64) % 64
def mul8 (x : BitVec 64) : BitVec 64 := 8 * x
theorem m8_wrap (x : BitVec 64) : IntKind.u64.wrap (8 * (x.toNat : Int)) = ((mul8 x).toNat : Int) := by
  rw [IntKind.wrap_u64, mul8, BitVec.toNat_mul]
  show _ = ((8 * x.toNat % 18446744073709551616 : Nat) : Int)
  omega
/-- What makes a rest whole blocks, and tells the count. -/
def padBytes (rest : Nat) (count : BitVec 64) : List UInt8 := 128 :: (List.replicate (noughts rest) 0 ++ be64 (mul8 count))
theorem padBytes_length (rest : Nat) (count : BitVec 64) : (padBytes rest count).length = 9 + noughts rest := by simp [padBytes, be64_length]; omega

end Go.Proofs.YtonmccmeljeopaaDoor

namespace Go.Proofs.YtonmccmeljeopaaDoor
open Go.RowKit
set_option linter.unusedSimpArgs false
set_option linter.unusedVariables false

set_option maxHeartbeats 400000 in
set_option maxRecDepth 100000 in
theorem padding_calls (rest : Nat) (hr : rest ≤ 140737488355328) (count : BitVec 64) (w : World) :
    Calls Tryd.prog 68 #[.int .i64 (rest : Int), .int .u64 (count.toNat : Int)] w fun e w' => e = .returned (.string (str (padBytes rest count))) ∧ Below w.heap.size w w' := by
  generalize hn : noughts rest = n
  have hn64 : n < 64 := by rw [← hn]; exact Nat.mod_lt _ (by decide)
  have e1 : ((119 : Int) - (rest : Int) % 64) % 64 = (n : Int) := by rw [← hn, noughts]; omega
  have mk := make_bytes (1 + n + 8) (by omega)
  rw [show ((1 + n + 8 : Nat) : Int) = 1 + (n : Int) + 8 by omega] at mk
  have m8 := m8_wrap
  have Hn := hide hn
  clear hn
  go_enter Tryd.func68, Tryd.ntmps68
  go_wp2
  generalize hx : mul8 count = x
  have Hx := hide hx
  clear hx
  go_loopw [21] (fun i wr => ∃ k : Nat, k ≤ 8 ∧ i = .int .i64 k ∧ Below w.heap.size w wr ∧ wr.heap[w.heap.size]? = some (.cells (bc (128 :: (List.replicate n 0 ++ (be64 x).take k) ++ List.replicate (8 - k) 0)) 5 (0, 0))) (fun i _ => 8 - (intOf i).toNat)
  case atStart =>
    refine ⟨0, by omega, rfl, (Below.refl _ _).alloc (Nat.le_refl _) _, ?_⟩
    rw [al1, show 1 + n + 8 = (n + 8) + 1 by omega, List.replicate_succ]
    have := bc_set [] (List.replicate (n + 8) 0) 0 128 0 rfl
    simp only [List.nil_append] at this
    simp only [List.take_zero, List.append_nil, Nat.sub_zero, List.cons_append, List.replicate_append_replicate]
    exact congrArg (fun c => some (Obj.cells c 5 (0, 0))) this
  case round =>
    obtain ⟨k, hk, rfl, hb, q⟩ := hrel
    by_cases hlt : k < 8
    · have hl : (128 :: (List.replicate n 0 ++ (be64 x).take k) : List UInt8).length = 1 + n + k := by simp [be64_length]; omega
      have hlen : (128 :: (List.replicate n 0 ++ (be64 x).take k) ++ List.replicate (8 - k) 0 : List UInt8).length = 1 + n + 8 := by rw [List.length_append, hl, List.length_replicate]; omega
      have c : wr.cell? ⟨w.heap.size, 1 + n + k, none⟩ = some (.int .u8 (((128 :: (List.replicate n 0 ++ (be64 x).take k) ++ List.replicate (8 - k) 0 : List UInt8).getD (1 + n + k) 0).toNat : Int)) := by
        rw [cell_of_row _ _ _ _ _ _ q]; exact bc_at _ _ (by omega)
      have f : wr.frozen? ⟨w.heap.size, 1 + n + k, none⟩ = false := frozen_of_row _ _ _ _ _ q
      have b1 : (0 : Int) ≤ 1 + n + k ∧ (1 : Int) + n + k < 1 + n + 8 := by omega
      have Hl := hide hl
      obtain ⟨s, hs, es⟩ : ∃ s : Nat, Hid (56 - 8 * k = s) ∧ (56 : Int) - 8 * (k : Int) = (s : Int) := ⟨_, rfl, by omega⟩
      have hs64 : s ≤ 56 := by have := unhide hs; omega
      generalize hv : (128 :: (List.replicate n 0 ++ (be64 x).take k) ++ List.replicate (8 - k) 0 : List UInt8).getD (1 + n + k) 0 = v at c
      clear hlen hl hv mk m8
      go_wp2
      go_roundw
      case rel =>
        refine ⟨k + 1, by omega, by go_num, hb.setCell (by simp) _, ?_⟩
        rw [byte_mod, ← unhide hs, ← be64_at x k hlt]
        have hz : List.replicate (8 - k) (0 : UInt8) = 0 :: List.replicate (8 - (k + 1)) 0 := by rw [show 8 - k = (8 - (k + 1)) + 1 by omega]; rfl
        rw [hz] at q
        rw [heap_setCell_same _ _ _ _ _ _ q, bc_set _ _ _ _ _ (unhide Hl).symm]
        have ht : (be64 x).take (k + 1) = (be64 x).take k ++ [(be64 x).getD k 0] := by
          rw [List.take_succ_eq_append_getElem (by rw [be64_length]; omega)]
          simp [be64_length, hlt]
        rw [ht]; simp
      case measure => simp [intOf]; omega
    · have q' : wr.heap[w.heap.size]? = some (.cells (bc (padBytes rest count)) 5 (0, 0)) := by
        rw [q, show k = 8 by omega, padBytes, unhide Hn, unhide Hx, List.take_of_length_le (by rw [be64_length]; omega)]; simp
      have hl : (padBytes rest count).length = 1 + n + 8 := by rw [padBytes_length, unhide Hn]; omega
      have hcv := run_convert_bytes_back (P := Tryd.prog) wr 71 9 5 ⟨w.heap.size, 0, none⟩ (1 + n + 8) (padBytes rest count) Tryd.underlying71 Tryd.underlying5 Tryd.underlying9 (fun j hj => by
        have hadd : (⟨w.heap.size, 0, none⟩ : Addr).add j = ⟨w.heap.size, j, none⟩ := by unfold Addr.add; split <;> simp_all
        rw [hadd, cell_of_row _ _ _ _ _ _ q', bc_at _ _ hj]; simp [hj])
      rw [hl] at hcv
      generalize hp : padBytes rest count = pb at *
      have Hp := hide hp
      have hd : decide ((k : Int) < 8) = false := by simp; omega
      clear q q' hl mk m8 hp
      go_wp2
      go_ret
      exact ⟨by rw [unhide Hp]; rfl, hb⟩
end Go.Proofs.YtonmccmeljeopaaDoor

namespace Go.Proofs.YtonmccmeljeopaaDoor
open Go.RowKit
set_option linter.unusedSimpArgs false
set_option linter.unusedVariables false

/-- Words as bytes, the highest byte of each first. -/
def wordBytes (x : BitVec 32) : List UInt8 := [UInt8.ofNat (x.toNat / 2 ^ 24), UInt8.ofNat (x.toNat / 2 ^ 16), UInt8.ofNat (x.toNat / 2 ^ 8), UInt8.ofNat (x.toNat / 2 ^ 0)]
def S8.bytes (s : S8) : List UInt8 := s.list.flatMap wordBytes
/-- The digest that a state ends in. -/
def pEnd (t : St) : List UInt8 := (pThrough t.s (t.rest ++ padBytes t.rest.length t.count)).1.bytes
theorem S8.bytes_length (s : S8) : s.bytes.length = 32 := rfl
theorem wordBytes_length (x : BitVec 32) : (wordBytes x).length = 4 := rfl
theorem wordBytes_at (x : BitVec 32) (j : Nat) (h : j < 4) : (wordBytes x).getD j 0 = UInt8.ofNat (x.toNat / 2 ^ (24 - 8 * j)) := by
  match j, h with
  | 0, _ => rfl
  | 1, _ => rfl
  | 2, _ => rfl
  | 3, _ => rfl
theorem flat_length (l : List (BitVec 32)) : (l.flatMap wordBytes).length = 4 * l.length := by
  induction l with
  | nil => rfl
  | cons x l ih => simp [ih, wordBytes_length]; omega
set_option maxHeartbeats 2000000 in
set_option maxRecDepth 100000 in
theorem end_calls (st : St) (hl : st.rest.length ≤ 140737488355000) (w : World) (tabs : Tabs w) :
    Calls Tryd.prog 63 #[.agg st.cells] w fun e w' => e = .returned (.agg (bc (pEnd st))) ∧ Below w.heap.size w w' := by
  obtain ⟨⟨a, b, c, d, e, f, g, h⟩, rest, count⟩ := st
  simp only [St.cells]
  have hl : rest.length ≤ 140737488355000 := hl
  have hpl := padBytes_length rest.length count
  have hn64 : noughts rest.length < 64 := Nat.mod_lt _ (by decide)
  generalize hpd : padBytes rest.length count = pd at *
  have ea := append_str rest pd
  have n1 : ¬ 9223372036854775807 < rest.length + pd.length := by omega
  have Hpd := hide hpd
  have hpb : pd.length ≤ 72 := by omega
  clear hpd hpl
  go_enter Tryd.func63, Tryd.ntmps63
  go_wp2
  have q0 := (al2 w (.cells (St.mk ⟨a, b, c, d, e, f, g, h⟩ rest count).cells 106) (.cells (bc (List.replicate 32 0)) 23)).1
  have q1 := (al2 w (.cells (St.mk ⟨a, b, c, d, e, f, g, h⟩ rest count).cells 106) (.cells (bc (List.replicate 32 0)) 23)).2
  have hb2 := bel2 w (.cells (St.mk ⟨a, b, c, d, e, f, g, h⟩ rest count).cells 106) (.cells (bc (List.replicate 32 0)) 23)
  have z2 : ((w.alloc (.cells (St.mk ⟨a, b, c, d, e, f, g, h⟩ rest count).cells 106)).alloc (.cells (bc (List.replicate 32 0)) 23)).heap.size = w.heap.size + 1 + 1 := by simp
  generalize hw2 : (w.alloc (.cells (St.mk ⟨a, b, c, d, e, f, g, h⟩ rest count).cells 106)).alloc (.cells (bc (List.replicate 32 0)) 23) = w2 at *
  change Code.wp _ _ _ _ ((w.alloc (.cells (St.mk ⟨a, b, c, d, e, f, g, h⟩ rest count).cells 106)).alloc (.cells (bc (List.replicate 32 0)) 23))
  rw [hw2]
  have c0 : w2.cell? ⟨w.heap.size, 0, none⟩ = some (.int .u32 (a.toNat : Int)) := cell_of_row _ _ _ _ _ _ q0
  have c1 : w2.cell? ⟨w.heap.size, 1, none⟩ = some (.int .u32 (b.toNat : Int)) := cell_of_row _ _ _ _ _ _ q0
  have c2 : w2.cell? ⟨w.heap.size, 2, none⟩ = some (.int .u32 (c.toNat : Int)) := cell_of_row _ _ _ _ _ _ q0
  have c3 : w2.cell? ⟨w.heap.size, 3, none⟩ = some (.int .u32 (d.toNat : Int)) := cell_of_row _ _ _ _ _ _ q0
  have c4 : w2.cell? ⟨w.heap.size, 4, none⟩ = some (.int .u32 (e.toNat : Int)) := cell_of_row _ _ _ _ _ _ q0
  have c5 : w2.cell? ⟨w.heap.size, 5, none⟩ = some (.int .u32 (f.toNat : Int)) := cell_of_row _ _ _ _ _ _ q0
  have c6 : w2.cell? ⟨w.heap.size, 6, none⟩ = some (.int .u32 (g.toNat : Int)) := cell_of_row _ _ _ _ _ _ q0
  have c7 : w2.cell? ⟨w.heap.size, 7, none⟩ = some (.int .u32 (h.toNat : Int)) := cell_of_row _ _ _ _ _ _ q0
  have c8 : w2.cell? ⟨w.heap.size, 8, none⟩ = some (.string (str rest)) := cell_of_row _ _ _ _ _ _ q0
  have c9 : w2.cell? ⟨w.heap.size, 9, none⟩ = some (.int .u64 (count.toNat : Int)) := cell_of_row _ _ _ _ _ _ q0
  generalize hT : pThrough ⟨a, b, c, d, e, f, g, h⟩ (rest ++ pd) = T
  obtain ⟨⟨r0, r1, r2, r3, r4, r5, r6, r7⟩, m⟩ := T
  have tb2 : Tabs w2 := tabs.below' hb2
  have hzB : w.heap.size < w2.heap.size := by omega
  have hpad : ∀ w3, Below w2.heap.size w2 w3 → Calls Tryd.prog 68 #[.int .i64 (rest.length : Int), .int .u64 (count.toNat : Int)] w3 fun e w' => e = .returned (.string (str pd)) ∧ Below w2.heap.size w2 w' ∧ Below w3.heap.size w3 w' := fun w3 h3 => by
    refine (padding_calls rest.length (by omega) count _).mono ?_
    rintro en w' ⟨rfl, hb⟩
    rw [unhide Hpd]; exact ⟨rfl, h3.trans (hb.mono h3.size), hb⟩
  have hth : ∀ w3, Below w2.heap.size w2 w3 → Calls Tryd.prog 66 #[.agg #[.int .u32 (a.toNat : Int), .int .u32 (b.toNat : Int), .int .u32 (c.toNat : Int), .int .u32 (d.toNat : Int), .int .u32 (e.toNat : Int), .int .u32 (f.toNat : Int), .int .u32 (g.toNat : Int), .int .u32 (h.toNat : Int)], .string (str (rest ++ pd))] w3 fun en w' => en = .returned (.tuple #[.agg #[.int .u32 (r0.toNat : Int), .int .u32 (r1.toNat : Int), .int .u32 (r2.toNat : Int), .int .u32 (r3.toNat : Int), .int .u32 (r4.toNat : Int), .int .u32 (r5.toNat : Int), .int .u32 (r6.toNat : Int), .int .u32 (r7.toNat : Int)], .string (str m)]) ∧ Below w2.heap.size w2 w' ∧ Below w3.heap.size w3 w' := fun w3 h3 => by
    refine (through_calls ⟨a, b, c, d, e, f, g, h⟩ (rest ++ pd) (by simp [maxLen]; omega) _ (tb2.below' h3)).mono ?_
    rintro en w' ⟨rfl, hb⟩
    rw [hT]; exact ⟨rfl, h3.trans (hb.mono h3.size), hb⟩
  have HT := hide hT
  have Q1 := hide q1
  have Hpad := hide hpad
  have Hth := hide hth
  have Hz2 := hide z2
  clear hT q0 q1 hw2 tb2 hpad hth z2
  go_cut [3, 4] (fun p s wc => ∃ gg : Nat, p = .pointer (some ⟨gg, 0, none⟩) ∧ s = .string (str m) ∧ wc.heap[gg]? = some (.cells #[.int .u32 (r0.toNat : Int), .int .u32 (r1.toNat : Int), .int .u32 (r2.toNat : Int), .int .u32 (r3.toNat : Int), .int .u32 (r4.toNat : Int), .int .u32 (r5.toNat : Int), .int .u32 (r6.toNat : Int), .int .u32 (r7.toNat : Int)] 100 (0, 0)) ∧ w2.heap.size ≤ gg ∧ Below w2.heap.size w2 wc)
  case first =>
    have HS : Hid (∀ w', Below w2.heap.size w2 w' → w'.cell? ⟨w.heap.size, 0, none⟩ = some (.int .u32 (a.toNat : Int)) ∧ w'.cell? ⟨w.heap.size, 1, none⟩ = some (.int .u32 (b.toNat : Int)) ∧ w'.cell? ⟨w.heap.size, 2, none⟩ = some (.int .u32 (c.toNat : Int)) ∧ w'.cell? ⟨w.heap.size, 3, none⟩ = some (.int .u32 (d.toNat : Int)) ∧ w'.cell? ⟨w.heap.size, 4, none⟩ = some (.int .u32 (e.toNat : Int)) ∧ w'.cell? ⟨w.heap.size, 5, none⟩ = some (.int .u32 (f.toNat : Int)) ∧ w'.cell? ⟨w.heap.size, 6, none⟩ = some (.int .u32 (g.toNat : Int)) ∧ w'.cell? ⟨w.heap.size, 7, none⟩ = some (.int .u32 (h.toNat : Int)) ∧ w'.cell? ⟨w.heap.size, 8, none⟩ = some (.string (str rest)) ∧ w'.cell? ⟨w.heap.size, 9, none⟩ = some (.int .u64 (count.toNat : Int))) := fun w' hw => by
      have hc := fun o => hw.cell (p := ⟨w.heap.size, o, none⟩) hzB
      simp only [hc]
      exact ⟨c0, c1, c2, c3, c4, c5, c6, c7, c8, c9⟩
    go_region_held3 (fun w' => w'.cell? ⟨w.heap.size, 0, none⟩ = some (.int .u32 (a.toNat : Int)) ∧ w'.cell? ⟨w.heap.size, 1, none⟩ = some (.int .u32 (b.toNat : Int)) ∧ w'.cell? ⟨w.heap.size, 2, none⟩ = some (.int .u32 (c.toNat : Int)) ∧ w'.cell? ⟨w.heap.size, 3, none⟩ = some (.int .u32 (d.toNat : Int)) ∧ w'.cell? ⟨w.heap.size, 4, none⟩ = some (.int .u32 (e.toNat : Int)) ∧ w'.cell? ⟨w.heap.size, 5, none⟩ = some (.int .u32 (f.toNat : Int)) ∧ w'.cell? ⟨w.heap.size, 6, none⟩ = some (.int .u32 (g.toNat : Int)) ∧ w'.cell? ⟨w.heap.size, 7, none⟩ = some (.int .u32 (h.toNat : Int)) ∧ w'.cell? ⟨w.heap.size, 8, none⟩ = some (.string (str rest)) ∧ w'.cell? ⟨w.heap.size, 9, none⟩ = some (.int .u64 (count.toNat : Int)))
      (exact unhide HS _ (by (repeat' (first | with_reducible assumption | with_reducible exact Below.refl _ _ | with_reducible refine Below.drew ?_ | with_reducible refine Below.alloc ?_ ?_ _ | with_reducible refine Below.setCell ?_ ?_ _ | with_reducible exact Nat.le_refl _ | with_reducible exact Below.size (by with_reducible assumption) | (show w2.heap.size ≤ _; simp only [World.size_alloc, World.size_drew, World.size_setCell]; omega)))))
      (first
        | (go_at_call 68; refine (unhide Hpad _ ?_).mono ?_; (repeat' (first | with_reducible assumption | with_reducible exact Below.refl _ _ | with_reducible refine Below.drew ?_ | with_reducible refine Below.alloc ?_ ?_ _ | with_reducible refine Below.setCell ?_ ?_ _ | with_reducible exact Nat.le_refl _ | with_reducible exact Below.size (by with_reducible assumption) | (show w2.heap.size ≤ _; simp only [World.size_alloc, World.size_drew, World.size_setCell]; omega))); rintro e w' ⟨rfl, hbb, hbc⟩; obtain ⟨hk, hkf, hz2, hh⟩ := alloc_kept_drew hbc; clear hbc)
        | (go_at_call 68; refine (unhide Hpad _ ?_).mono ?_; (repeat' (first | with_reducible assumption | with_reducible exact Below.refl _ _ | with_reducible refine Below.drew ?_ | with_reducible refine Below.alloc ?_ ?_ _ | with_reducible refine Below.setCell ?_ ?_ _ | with_reducible exact Nat.le_refl _ | with_reducible exact Below.size (by with_reducible assumption) | (show w2.heap.size ≤ _; simp only [World.size_alloc, World.size_drew, World.size_setCell]; omega))); rintro e w' ⟨rfl, hbb, hbc⟩; clear hbc)
        | (go_at_call 66; refine (unhide Hth _ ?_).mono ?_; (repeat' (first | with_reducible assumption | with_reducible exact Below.refl _ _ | with_reducible refine Below.drew ?_ | with_reducible refine Below.alloc ?_ ?_ _ | with_reducible refine Below.setCell ?_ ?_ _ | with_reducible exact Nat.le_refl _ | with_reducible exact Below.size (by with_reducible assumption) | (show w2.heap.size ≤ _; simp only [World.size_alloc, World.size_drew, World.size_setCell]; omega))); rintro e w' ⟨rfl, hbb, hbc⟩; have hk2 : ∀ o : Nat, w'.cell? ⟨w2.heap.size, o, none⟩ = (#[.int .u32 0, .int .u32 0, .int .u32 0, .int .u32 0, .int .u32 0, .int .u32 0, .int .u32 0, .int .u32 0] : Array Value)[o]? := fun o => (hbc.cell (p := ⟨w2.heap.size, o, none⟩) hz2).trans (hk o); have hkf2 : ∀ o : Nat, w'.frozen? ⟨w2.heap.size, o, none⟩ = false := fun o => (hbc.frozen (p := ⟨w2.heap.size, o, none⟩) hz2).trans (hkf o); have hh2 := hide ((hbc.block _ hz2).trans (unhide hh)); clear hk hkf hbc hh)
        | (go_at_call 66; refine (unhide Hth _ ?_).mono ?_; (repeat' (first | with_reducible assumption | with_reducible exact Below.refl _ _ | with_reducible refine Below.drew ?_ | with_reducible refine Below.alloc ?_ ?_ _ | with_reducible refine Below.setCell ?_ ?_ _ | with_reducible exact Nat.le_refl _ | with_reducible exact Below.size (by with_reducible assumption) | (show w2.heap.size ≤ _; simp only [World.size_alloc, World.size_drew, World.size_setCell]; omega))); rintro e w' ⟨rfl, hbb, hbc⟩; obtain ⟨hk, hkf, hz2, hh⟩ := alloc_kept hbc; clear hbc)
        | (go_at_call 66; refine (unhide Hth _ ?_).mono ?_; (repeat' (first | with_reducible assumption | with_reducible exact Below.refl _ _ | with_reducible refine Below.drew ?_ | with_reducible refine Below.alloc ?_ ?_ _ | with_reducible refine Below.setCell ?_ ?_ _ | with_reducible exact Nat.le_refl _ | with_reducible exact Below.size (by with_reducible assumption) | (show w2.heap.size ≤ _; simp only [World.size_alloc, World.size_drew, World.size_setCell]; omega))); rintro e w' ⟨rfl, hbb, hbc⟩; clear hbc))
    · go_wp2
      go_meet
      case rel => exact ⟨_, rfl, rfl, al1 _ _, by (repeat' (first | with_reducible assumption | with_reducible exact Below.refl _ _ | with_reducible refine Below.drew ?_ | with_reducible refine Below.alloc ?_ ?_ _ | with_reducible refine Below.setCell ?_ ?_ _ | with_reducible exact Nat.le_refl _ | with_reducible exact Below.size (by with_reducible assumption) | (show w2.heap.size ≤ _; simp only [World.size_alloc, World.size_drew, World.size_setCell]; omega))), by (repeat' (first | with_reducible assumption | with_reducible exact Below.refl _ _ | with_reducible refine Below.drew ?_ | with_reducible refine Below.alloc ?_ ?_ _ | with_reducible refine Below.setCell ?_ ?_ _ | with_reducible exact Nat.le_refl _ | with_reducible exact Below.size (by with_reducible assumption) | (show w2.heap.size ≤ _; simp only [World.size_alloc, World.size_drew, World.size_setCell]; omega)))⟩
    · go_wp2
      go_meet
      case rel =>
        refine ⟨_, rfl, rfl, ?_, by (repeat' (first | with_reducible assumption | with_reducible exact Below.refl _ _ | with_reducible refine Below.drew ?_ | with_reducible refine Below.alloc ?_ ?_ _ | with_reducible refine Below.setCell ?_ ?_ _ | with_reducible exact Nat.le_refl _ | with_reducible exact Below.size (by with_reducible assumption) | (show w2.heap.size ≤ _; simp only [World.size_alloc, World.size_drew, World.size_setCell]; omega))), by (repeat' (first | with_reducible assumption | with_reducible exact Below.refl _ _ | with_reducible refine Below.drew ?_ | with_reducible refine Below.alloc ?_ ?_ _ | with_reducible refine Below.setCell ?_ ?_ _ | with_reducible exact Nat.le_refl _ | with_reducible exact Below.size (by with_reducible assumption) | (show w2.heap.size ≤ _; simp only [World.size_alloc, World.size_drew, World.size_setCell]; omega)))⟩
        exact set8 _ _ _ _ _ _ _ _ _ _ _ _ _ _ _ _ _ _ _ (unhide hh)
    · go_wp2
      go_meet
      case rel =>
        refine ⟨_, rfl, rfl, ?_, by (repeat' (first | with_reducible assumption | with_reducible exact Below.refl _ _ | with_reducible refine Below.drew ?_ | with_reducible refine Below.alloc ?_ ?_ _ | with_reducible refine Below.setCell ?_ ?_ _ | with_reducible exact Nat.le_refl _ | with_reducible exact Below.size (by with_reducible assumption) | (show w2.heap.size ≤ _; simp only [World.size_alloc, World.size_drew, World.size_setCell]; omega))), by (repeat' (first | with_reducible assumption | with_reducible exact Below.refl _ _ | with_reducible refine Below.drew ?_ | with_reducible refine Below.alloc ?_ ?_ _ | with_reducible refine Below.setCell ?_ ?_ _ | with_reducible exact Nat.le_refl _ | with_reducible exact Below.size (by with_reducible assumption) | (show w2.heap.size ≤ _; simp only [World.size_alloc, World.size_drew, World.size_setCell]; omega)))⟩
        exact set8 _ _ _ _ _ _ _ _ _ _ _ _ _ _ _ _ _ _ _ (unhide hh2)
  case rest =>
    clear Hpad Hth c0 c1 c2 c3 c4 c5 c6 c7 c8 c9
    obtain ⟨gg, rfl, rfl, qg, hgg, hbw⟩ := hcut
    obtain ⟨rl, hrl, hrlen⟩ : ∃ rl : List (BitVec 32), Hid ([r0, r1, r2, r3, r4, r5, r6, r7] = rl) ∧ rl.length = 8 := ⟨_, rfl, rfl⟩
    have hglt : gg < wc.heap.size := by
      by_cases hlt : gg < wc.heap.size
      · exact hlt
      · rw [Array.getElem?_eq_none (by omega)] at qg; cases qg
    have qg' : ∀ o, (wc.alloc o).heap[gg]? = some (.cells (Go.Proofs.YtonmccmeljeopaaDoor.wc rl) 100 (0, 0)) := fun o => by
      rw [Below.heap_alloc _ _ _ hglt, qg, ← unhide hrl]; rfl
    have hir : (Tryd.prog.info? 100).map (·.size) = some (Go.Proofs.YtonmccmeljeopaaDoor.wc rl).size := by rw [wc_size, hrlen]; kernel_rfl
    have hd := al1 wc (.cells (bc (List.replicate 32 0)) 23)
    have hres : wc.heap[w.heap.size + 1]? = some (.cells (bc (List.replicate 32 0)) 23 (0, 0)) := Below.at hbw (by have := unhide Hz2; omega) (unhide Q1)
    have hzc : w.heap.size + 1 < wc.heap.size := by have := hbw.size; have := unhide Hz2; omega
    have hres' := (Below.heap_alloc wc (.cells (bc (List.replicate 32 0)) 23) _ hzc).trans hres
    have hbel : Below w.heap.size w (wc.alloc (.cells (bc (List.replicate 32 0)) 23)) := (hb2.trans (hbw.mono (by have := unhide Hz2; omega))).alloc (by omega) _
    have Hd := hide hd
    have Hr := hide hres'
    clear qg hres hd hres' hbw hgg
    go_wp2_with (refine wpList_load_row rfl 100 (.tmp 3) rfl gg rfl 100 _ (0, 0) _ (qg' _) Tryd.underlying100 rfl hir ?_)
    clear qg' hir
    generalize hBd : wc.heap.size = Bd at *
    clear hBd
    go_loopw [25] (fun i wr => ∃ k : Nat, k ≤ 8 ∧ i = .int .i64 k ∧ Below w.heap.size w wr ∧ wr.heap[Bd]? = some (.cells (bc ((rl.take k).flatMap wordBytes ++ List.replicate (32 - 4 * k) 0)) 23 (0, 0)) ∧ wr.heap[w.heap.size + 1]? = some (.cells (bc (List.replicate 32 0)) 23 (0, 0))) (fun i _ => 8 - (intOf i).toNat)
    case atStart => exact ⟨0, by omega, rfl, hbel, unhide Hd, unhide Hr⟩
    case round =>
      clear hbel Hd Hr
      obtain ⟨k, hk, rfl, hb, q, qr⟩ := hrel
      by_cases hlt : k < 8
      · have hidx := index8 rl hrlen k hlt
        generalize hx : rl.getD k 0 = x at hidx
        have Hx := hide hx
        clear hx
        have hdk : decide ((k : Int) < 8) = true := by simp; omega
        generalize hpre : (rl.take k).flatMap wordBytes = pre at q
        have hplen : pre.length = 4 * k := by rw [← hpre, flat_length, List.length_take, hrlen]; omega
        have Hpre := hide hpre
        have Hpl := hide hplen
        clear hpre hplen
        go_wp2
        go_loopw [29] (fun i wr => ∃ j : Nat, j ≤ 4 ∧ i = .int .i64 j ∧ Below w.heap.size w wr ∧ wr.heap[Bd]? = some (.cells (bc (pre ++ (wordBytes x).take j ++ List.replicate (32 - 4 * k - j) 0)) 23 (0, 0)) ∧ wr.heap[w.heap.size + 1]? = some (.cells (bc (List.replicate 32 0)) 23 (0, 0))) (fun i _ => 4 - (intOf i).toNat)
        case atStart => exact ⟨0, by omega, rfl, hb, by rw [q]; simp, qr⟩
        case round =>
          clear hb q qr
          obtain ⟨j, hj, rfl, hb, q, qr⟩ := hrel
          by_cases hjl : j < 4
          · have hl : (pre ++ (wordBytes x).take j).length = 4 * k + j := by rw [List.length_append, unhide Hpl, List.length_take, wordBytes_length]; omega
            have hz : List.replicate (32 - 4 * k - j) (0 : UInt8) = 0 :: List.replicate (32 - 4 * k - (j + 1)) 0 := by rw [show 32 - 4 * k - j = (32 - 4 * k - (j + 1)) + 1 by omega]; rfl
            rw [hz] at q
            have c : wr.cell? ⟨Bd, 4 * k + j, none⟩ = some (.int .u8 (((pre ++ (wordBytes x).take j ++ 0 :: List.replicate (32 - 4 * k - (j + 1)) 0).getD (4 * k + j) 0).toNat : Int)) := by
              rw [cell_of_row _ _ _ _ _ _ q]; exact bc_at _ _ (by rw [List.length_append, hl]; simp)
            generalize hv : (pre ++ (wordBytes x).take j ++ 0 :: List.replicate (32 - 4 * k - (j + 1)) 0).getD (4 * k + j) 0 = v at c
            have fz : wr.frozen? ⟨Bd, 4 * k + j, none⟩ = false := frozen_of_row _ _ _ _ _ q
            have b1 : (0 : Int) ≤ 4 * k + j ∧ (4 : Int) * k + j < 32 := by omega
            have b2 : (4 * (k : Int) + (j : Int)).toNat = 4 * k + j := by omega
            obtain ⟨sh, hsh, esh⟩ : ∃ sh : Nat, Hid (24 - 8 * j = sh) ∧ (24 : Int) - 8 * (j : Int) = (sh : Int) := ⟨_, rfl, by omega⟩
            have hs24 : sh ≤ 24 := by have := unhide hsh; omega
            have Hl := hide hl
            have Hq := hide q
            have hBlt : w.heap.size ≤ Bd := by omega
            clear hz hl hv q
            go_wp2
            go_roundw
            case rel =>
              refine ⟨j + 1, by omega, by go_num, hb.setCell (by simp; omega) _, ?_, ?_⟩
              · rw [byte_mod, ← unhide hsh, ← wordBytes_at x j hjl, heap_setCell_same _ _ _ _ _ _ (unhide Hq), bc_set _ _ _ _ _ (unhide Hl).symm, take_snoc' _ _ 0 (by rw [wordBytes_length]; omega)]
                simp
              · rw [heap_setCell_other _ _ _ _ (by simp; omega)]; exact qr
            case measure => simp [intOf]; omega
          · have hdj : decide ((j : Int) < 4) = false := by simp; omega
            have q' : wr.heap[Bd]? = some (.cells (bc ((rl.take (k + 1)).flatMap wordBytes ++ List.replicate (32 - 4 * (k + 1)) 0)) 23 (0, 0)) := by
              rw [q, show j = 4 by omega, take_snoc' rl k 0 (by omega), List.flatMap_append, unhide Hpre, unhide Hx, List.take_of_length_le (by rw [wordBytes_length]; omega), show 32 - 4 * k - 4 = 32 - 4 * (k + 1) by omega]
              simp
            clear q
            go_wp2
            go_roundw
            case rel => exact ⟨k + 1, by omega, by go_num, hb, q', qr⟩
            case measure => simp [intOf]; omega
      · have hdk : decide ((k : Int) < 8) = false := by simp; omega
        have hend : pEnd ⟨⟨a, b, c, d, e, f, g, h⟩, rest, count⟩ = rl.flatMap wordBytes := by
          simp only [pEnd]; rw [unhide Hpd, unhide HT, ← unhide hrl]; rfl
        have q' : wr.heap[Bd]? = some (.cells (bc (pEnd ⟨⟨a, b, c, d, e, f, g, h⟩, rest, count⟩)) 23 (0, 0)) := by
          rw [q, show k = 8 by omega, hend, List.take_of_length_le (by omega)]; simp
        generalize hE : pEnd ⟨⟨a, b, c, d, e, f, g, h⟩, rest, count⟩ = res at q' hend
        have HE := hide hE
        have hil : (Tryd.prog.info? 23).map (·.size) = some (bc res).size := by rw [bc_size, hend, flat_length, hrlen]; kernel_rfl
        have ho1 := bc_oneCell res
        have hsz : (bc (List.replicate 32 (0 : UInt8))).size = (bc res).size := by rw [bc_size, bc_size, hend, flat_length, hrlen]; rfl
        clear q hend hE
        go_wp2_with (first
          | (refine wpList_load_row rfl 23 (.tmp 5) rfl Bd rfl 23 _ (0, 0) _ q' Tryd.underlying23 rfl hil ?_)
          | (refine wpList_store_row rfl 23 (.tmp 2) (.tmp 45) rfl (w.heap.size + 1) _ rfl rfl 23 _ qr hil hsz ho1 ?_))
        exact bodyPost_ret (results_cell_row rfl _ _ (w.heap.size + 1) _ _ _ _ rfl (setRow_heap _ _ _ _ _ _ qr) Tryd.underlying23 rfl hil) rfl ⟨by rw [unhide HE], below_setRow hb (by simp) _⟩
end Go.Proofs.YtonmccmeljeopaaDoor

namespace Go.Proofs.YtonmccmeljeopaaDoor
open Go.RowKit
set_option linter.unusedSimpArgs false
set_option linter.unusedVariables false

/-- The digest of parts. -/
def pSum (parts : List (List UInt8)) : List UInt8 := pEnd (parts.foldl pAdd pBegin)
theorem pEnd_length (t : St) : (pEnd t).length = 32 := S8.bytes_length _
theorem pSum_length (parts : List (List UInt8)) : (pSum parts).length = 32 := pEnd_length _
/-- Strings in a row of memory. -/
def StrsAt (w : World) (a : Option Addr) (parts : List (List UInt8)) : Prop :=
  parts = [] ∨ ∃ b o, a = some ⟨b, o, none⟩ ∧ b < w.heap.size ∧ ∀ j, j < parts.length → w.cell? ⟨b, o + j, none⟩ = some (.string (str (parts.getD j [])))
theorem StrsAt.below {w w' : World} {B : Nat} {a : Option Addr} {parts : List (List UInt8)} (h : StrsAt w a parts) (hb : Below B w w') (hB : w.heap.size ≤ B) : StrsAt w' a parts := by
  rcases h with h | ⟨b, o, rfl, hlt, hc⟩
  · exact .inl h
  · exact .inr ⟨b, o, rfl, Nat.lt_of_lt_of_le hlt hb.size, fun j hj => by rw [hb.cell (p := ⟨b, o + j, none⟩) (by show b < B; omega)]; exact hc j hj⟩
theorem foldl_take_succ {α β : Type} (f : β → α → β) (b : β) (l : List α) (k : Nat) (d : α) (h : k < l.length) : (l.take (k + 1)).foldl f b = f ((l.take k).foldl f b) (l.getD k d) := by
  rw [take_snoc' l k d h, List.foldl_append]; rfl
theorem add_rest (t : St) (l : List UInt8) : (pAdd t l).rest.length < 64 := (pThrough_rest_le _ _).1
theorem fold_rest (parts : List (List UInt8)) : (parts.foldl pAdd pBegin).rest.length < 64 := by
  rcases List.eq_nil_or_concat parts with rfl | ⟨l, x, rfl⟩
  · decide
  · rw [List.concat_eq_append, List.foldl_append]; exact add_rest _ _

set_option maxHeartbeats 1000000 in
set_option maxRecDepth 100000 in
theorem sum_some (parts : List (List UInt8)) (hp : ∀ p ∈ parts, p.length ≤ 70368744177664) (hn : parts.length ≤ 70368744177664) (b o : Nat) (cap : Nat) (w : World) (hlt : b < w.heap.size) (hc : ∀ j, j < parts.length → w.cell? ⟨b, o + j, none⟩ = some (.string (str (parts.getD j [])))) (tabs : Tabs w) :
    Calls Tryd.prog 52 #[.slice (some ⟨b, o, none⟩) parts.length cap] w fun e w' => e = .returned (.agg (bc (pSum parts))) ∧ Below w.heap.size w w' := by
  go_enter Tryd.func52, Tryd.ntmps52
  go_wp2_with fail
  refine (begin_calls _ (tabs.below' ((Below.refl _ _).alloc (Nat.le_refl _) _))).mono ?_
  rintro en w1 ⟨rfl, hb1⟩
  have hb0 : Below w.heap.size w w1 := ((Below.refl _ _).alloc (Nat.le_refl _) _).trans (hb1.mono (by simp))
  have z1 : w.heap.size < w1.heap.size := by have := hb1.size; simp at this; omega
  have q0 : w1.heap[w.heap.size]? = some (.cells (bc (List.replicate 32 0)) 23 (0, 0)) := Below.at hb1 (by simp) (al1 _ _)
  clear hb1
  have hiS : ∀ st : St, (Tryd.prog.info? 106).map (·.size) = some st.cells.size := fun st => by show _ = some 10; kernel_rfl
  have hi0 := hiS pBegin
  have ho0 := St.oneCell pBegin
  have HiS := hide hiS
  clear hiS
  go_wp2_with (refine wpList_store_row rfl 106 (.tmp 3) (.tmp 6) rfl w1.heap.size _ rfl rfl 106 _ (al1 _ _) hi0 rfl ho0 ?_)
  have q1 := setRow_heap _ _ _ pBegin.cells _ _ (al1 w1 (.cells (St.mk ⟨0, 0, 0, 0, 0, 0, 0, 0⟩ [] 0).cells 106))
  have q0' := (setRow_other (w1.alloc (.cells (St.mk ⟨0, 0, 0, 0, 0, 0, 0, 0⟩ [] 0).cells 106)) w1.heap.size w.heap.size pBegin.cells (by omega)).trans ((Below.heap_alloc w1 _ _ z1).trans q0)
  have hb2 := below_setRow (hb0.alloc (by omega) (.cells (St.mk ⟨0, 0, 0, 0, 0, 0, 0, 0⟩ [] 0).cells 106)) (Nat.le_of_lt z1) pBegin.cells
  have HQ1 := hide q1
  have HQ0 := hide q0'
  have HB2 := hide hb2
  clear hb0 q0 q1 q0' hb2 hi0 ho0
  go_loopw [9] (fun i wr => ∃ k : Nat, k ≤ parts.length ∧ i = .int .i64 k ∧ Below w.heap.size w wr ∧ w1.heap.size < wr.heap.size ∧ wr.heap[w1.heap.size]? = some (.cells ((parts.take k).foldl pAdd pBegin).cells 106 (0, 0)) ∧ wr.heap[w.heap.size]? = some (.cells (bc (List.replicate 32 0)) 23 (0, 0))) (fun i _ => parts.length - (intOf i).toNat)
  case atStart => exact ⟨0, by omega, rfl, unhide HB2, by simp, unhide HQ1, unhide HQ0⟩
  case round =>
    clear HB2 HQ1 HQ0
    obtain ⟨k, hk, rfl, hb, hz, q1, q0⟩ := hrel
    generalize hBs : w1.heap.size = Bs at *
    clear hBs
    by_cases hlk : k < parts.length
    · have hdk : decide ((k : Int) < (parts.length : Int)) = true := by simp; omega
      have bk : (0 : Int) ≤ k ∧ (k : Int) < (parts.length : Int) := by omega
      have c : wr.cell? ⟨b, o + k, none⟩ = some (.string (str (parts.getD k []))) := by rw [hb.cell (p := ⟨b, o + k, none⟩) hlt]; exact hc k hlk
      have hfold := foldl_take_succ pAdd pBegin parts k [] hlk
      have hpk : (parts.getD k []).length ≤ 70368744177664 := by
        rw [List.getD_eq_getElem?_getD, List.getElem?_eq_getElem hlk]; exact hp _ (List.getElem_mem _)
      have hrest := fold_rest (parts.take k)
      generalize hpt : parts.getD k [] = pt at c hfold hpk
      generalize hst : (parts.take k).foldl pAdd pBegin = st at q1 hfold hrest
      have tb := tabs.below hb (Nat.le_refl _)
      have hi1 := unhide HiS st
      have Hfold := hide hfold
      clear hpt hst hfold
      go_wp2_with (first
        | (refine wpList_load_row rfl 106 (.tmp 3) rfl Bs rfl 106 _ (0, 0) _ q1 Tryd.underlying106 rfl hi1 ?_)
        | (go_at_call 62; fail))
      refine (add_calls st pt (by omega) _ tb).mono ?_
      rintro en w3 ⟨rfl, hb3⟩
      have q1' := Below.at hb3 hz q1
      have q0' := Below.at hb3 (by omega) q0
      have z3 := hb3.size
      have hi2 := unhide HiS (pAdd st pt)
      have ho2 := St.oneCell (pAdd st pt)
      go_wp2_with (refine wpList_store_row rfl 106 (.tmp 3) (.tmp 15) rfl Bs _ rfl rfl 106 _ q1' hi2 rfl ho2 ?_)
      go_roundw
      case rel =>
        refine ⟨k + 1, by omega, by go_num, below_setRow (hb.trans (hb3.mono (by omega))) (by omega) _, by rw [setRow_size]; omega, ?_, ?_⟩
        · rw [unhide Hfold]; exact setRow_heap _ _ _ _ _ _ q1'
        · rw [setRow_other _ _ _ _ (by omega)]; exact q0'
      case measure => simp [intOf]; omega
    · have hdk : decide ((k : Int) < (parts.length : Int)) = false := by simp; omega
      rw [List.take_of_length_le (by omega)] at q1
      have tb := tabs.below hb (Nat.le_refl _)
      have hrest := fold_rest parts
      generalize hst : (parts).foldl pAdd pBegin = st at q1 hrest
      have Hst := hide hst
      have hi1 := unhide HiS st
      clear hst
      go_wp2_with (refine wpList_load_row rfl 106 (.tmp 3) rfl Bs rfl 106 _ (0, 0) _ q1 Tryd.underlying106 rfl hi1 ?_)
      refine (end_calls st (by omega) _ tb).mono ?_
      rintro en w3 ⟨rfl, hb3⟩
      have q0' := Below.at hb3 (by omega) q0
      have hil : (Tryd.prog.info? 23).map (·.size) = some (bc (pEnd st)).size := by rw [bc_size, pEnd_length]; kernel_rfl
      have ho1 := bc_oneCell (pEnd st)
      have hsz : (bc (List.replicate 32 (0 : UInt8))).size = (bc (pEnd st)).size := by rw [bc_size, bc_size, pEnd_length]; rfl
      go_wp2_with (refine wpList_store_row rfl 23 (.tmp 2) (.tmp 18) rfl w.heap.size _ rfl rfl 23 _ q0' hil hsz ho1 ?_)
      exact bodyPost_ret (results_cell_row rfl _ _ w.heap.size _ _ _ _ rfl (setRow_heap _ _ _ _ _ _ q0') Tryd.underlying23 rfl hil) rfl ⟨by rw [pSum, unhide Hst], below_setRow (hb.trans (hb3.mono (by omega))) (Nat.le_refl _) _⟩

set_option maxHeartbeats 1000000 in
set_option maxRecDepth 100000 in
theorem sum_none (a : Option Addr) (cap : Nat) (w : World) (tabs : Tabs w) :
    Calls Tryd.prog 52 #[.slice a 0 cap] w fun e w' => e = .returned (.agg (bc (pSum []))) ∧ Below w.heap.size w w' := by
  go_enter Tryd.func52, Tryd.ntmps52
  go_wp2_with fail
  refine (begin_calls _ (tabs.below' ((Below.refl _ _).alloc (Nat.le_refl _) _))).mono ?_
  rintro en w1 ⟨rfl, hb1⟩
  have hb0 : Below w.heap.size w w1 := ((Below.refl _ _).alloc (Nat.le_refl _) _).trans (hb1.mono (by simp))
  have z1 : w.heap.size < w1.heap.size := by have := hb1.size; simp at this; omega
  have q0 : w1.heap[w.heap.size]? = some (.cells (bc (List.replicate 32 0)) 23 (0, 0)) := Below.at hb1 (by simp) (al1 _ _)
  clear hb1
  have hiS : ∀ st : St, (Tryd.prog.info? 106).map (·.size) = some st.cells.size := fun st => by show _ = some 10; kernel_rfl
  have hi0 := hiS pBegin
  have ho0 := St.oneCell pBegin
  have HiS := hide hiS
  clear hiS
  go_wp2_with (refine wpList_store_row rfl 106 (.tmp 3) (.tmp 6) rfl w1.heap.size _ rfl rfl 106 _ (al1 _ _) hi0 rfl ho0 ?_)
  have q1 := setRow_heap _ _ _ pBegin.cells _ _ (al1 w1 (.cells (St.mk ⟨0, 0, 0, 0, 0, 0, 0, 0⟩ [] 0).cells 106))
  have q0' := (setRow_other (w1.alloc (.cells (St.mk ⟨0, 0, 0, 0, 0, 0, 0, 0⟩ [] 0).cells 106)) w1.heap.size w.heap.size pBegin.cells (by omega)).trans ((Below.heap_alloc w1 _ _ z1).trans q0)
  have hb2 := below_setRow (hb0.alloc (by omega) (.cells (St.mk ⟨0, 0, 0, 0, 0, 0, 0, 0⟩ [] 0).cells 106)) (Nat.le_of_lt z1) pBegin.cells
  have HQ1 := hide q1
  have HQ0 := hide q0'
  have HB2 := hide hb2
  clear hb0 q0 q1 q0' hb2 hi0 ho0
  go_loopw [9] (fun i wr => ∃ k : Nat, k ≤ 0 ∧ i = .int .i64 k ∧ Below w.heap.size w wr ∧ w1.heap.size < wr.heap.size ∧ wr.heap[w1.heap.size]? = some (.cells ((([] : List (List UInt8)).take k).foldl pAdd pBegin).cells 106 (0, 0)) ∧ wr.heap[w.heap.size]? = some (.cells (bc (List.replicate 32 0)) 23 (0, 0))) (fun i _ => 0 - (intOf i).toNat)
  case atStart => exact ⟨0, by omega, rfl, unhide HB2, by simp, unhide HQ1, unhide HQ0⟩
  case round =>
    clear HB2 HQ1 HQ0
    obtain ⟨k, hk, rfl, hb, hz, q1, q0⟩ := hrel
    generalize hBs : w1.heap.size = Bs at *
    clear hBs
    rw [List.take_nil] at q1
    have hdk : decide ((k : Int) < 0) = false := by simp
    have tb := tabs.below hb (Nat.le_refl _)
    have hrest := fold_rest []
    generalize hst : ([] : List (List UInt8)).foldl pAdd pBegin = st at q1 hrest
    have Hst := hide hst
    have hi1 := unhide HiS st
    clear hst
    go_wp2_with (refine wpList_load_row rfl 106 (.tmp 3) rfl Bs rfl 106 _ (0, 0) _ q1 Tryd.underlying106 rfl hi1 ?_)
    refine (end_calls st (by omega) _ tb).mono ?_
    rintro en w3 ⟨rfl, hb3⟩
    have q0' := Below.at hb3 (by omega) q0
    have hil : (Tryd.prog.info? 23).map (·.size) = some (bc (pEnd st)).size := by rw [bc_size, pEnd_length]; kernel_rfl
    have ho1 := bc_oneCell (pEnd st)
    have hsz : (bc (List.replicate 32 (0 : UInt8))).size = (bc (pEnd st)).size := by rw [bc_size, bc_size, pEnd_length]; rfl
    go_wp2_with (refine wpList_store_row rfl 23 (.tmp 2) (.tmp 18) rfl w.heap.size _ rfl rfl 23 _ q0' hil hsz ho1 ?_)
    exact bodyPost_ret (results_cell_row rfl _ _ w.heap.size _ _ _ _ rfl (setRow_heap _ _ _ _ _ _ q0') Tryd.underlying23 rfl hil) rfl ⟨by rw [pSum, unhide Hst], below_setRow (hb.trans (hb3.mono (by omega))) (Nat.le_refl _) _⟩

theorem sum_calls (parts : List (List UInt8)) (hp : ∀ p ∈ parts, p.length ≤ 70368744177664) (hn : parts.length ≤ 70368744177664) (a : Option Addr) (cap : Nat) (w : World) (hs : StrsAt w a parts) (tabs : Tabs w) :
    Calls Tryd.prog 52 #[.slice a parts.length cap] w fun e w' => e = .returned (.agg (bc (pSum parts))) ∧ Below w.heap.size w w' := by
  rcases hs with rfl | ⟨b, o, rfl, hlt, hc⟩
  · exact sum_none a cap w tabs
  · exact sum_some parts hp hn b o cap w hlt hc tabs
end Go.Proofs.YtonmccmeljeopaaDoor

namespace Go.Proofs.YtonmccmeljeopaaDoor
open Go.RowKit
set_option linter.unusedSimpArgs false
set_option linter.unusedVariables false

/-- A domain's and parts' input. -/
def pInput (dom : Nat) (parts : List (List UInt8)) : List UInt8 := pBig dom 1 ++ parts.flatMap pText4
/-- Their digest. -/
def pOf (dom : Nat) (parts : List (List UInt8)) : List UInt8 := pSum [pInput dom parts]
theorem pOf_length (dom : Nat) (parts : List (List UInt8)) : (pOf dom parts).length = 32 := pSum_length _
theorem flatText_len (M : Nat) : ∀ parts : List (List UInt8), (∀ p ∈ parts, p.length ≤ M) → (parts.flatMap pText4).length ≤ (4 + M) * parts.length
  | [], _ => by simp
  | p :: ps, h => by
    have h1 := h p (by simp)
    have h2 := flatText_len M ps fun q hq => h q (by simp [hq])
    rw [List.flatMap_cons, List.length_append, pText4_length, List.length_cons, Nat.mul_succ]; omega
theorem pInput_len (dom : Nat) (parts : List (List UInt8)) (h : ∀ p ∈ parts, p.length ≤ 100000000) (hn : parts.length ≤ 1000) : (pInput dom parts).length ≤ 200000000000 := by
  have := flatText_len 100000000 parts h
  have h2 : (4 + 100000000) * parts.length ≤ (4 + 100000000) * 1000 := Nat.mul_le_mul_left _ hn
  unfold pInput
  rw [List.length_append, pBig_length]; omega
theorem strCells_str (m : List UInt8) : Lib.strCells (str m) = Lib.byteCells m := by simp [Lib.strCells, Lib.byteCells, str]
theorem in_bound (M : Nat) (parts : List (List UInt8)) (k : Nat) (h : ∀ p ∈ parts, p.length ≤ M) (hn : parts.length ≤ 1000) : ((parts.take k).flatMap pText4).length ≤ (4 + M) * 1000 := by
  have := flatText_len M (parts.take k) fun p hp => h p (List.mem_of_mem_take hp)
  refine Nat.le_trans this (Nat.mul_le_mul_left _ ?_)
  rw [List.length_take]; omega
set_option maxHeartbeats 2000000 in
set_option maxRecDepth 100000 in
theorem inputOf_calls (dom : Nat) (hd : dom < 256) (parts : List (List UInt8)) (hp : ∀ p ∈ parts, p.length ≤ 100000000) (hn : parts.length ≤ 1000) (a : Option Addr) (cap : Nat) (w : World) (hs : StrsAt w a parts) :
    Calls Tryd.prog 51 #[.int .u8 (dom : Int), .slice a parts.length cap] w fun e w' => e = .returned (.string (str (pInput dom parts))) ∧ Below w.heap.size w w' := by
  have hb0 : ∀ k, ((parts.take k).flatMap pText4).length ≤ 200000000000 := fun k => Nat.le_trans (in_bound _ parts k hp hn) (by decide)
  have HB0 := hide hb0
  have HP := hide hp
  have HS := hide hs
  obtain ⟨R, hR⟩ : ∃ R, Hid (pInput dom parts = R) := ⟨_, hide rfl⟩
  rw [unhide hR]
  clear hb0 hp hs
  go_enter Tryd.func51, Tryd.ntmps51
  have hbld := Lib.IsBuilderF.of (Lib.fresh_isBuilder 85 5 w)
  go_wp2_with fail
  refine (wbyte_calls dom hd _).mono ?_
  rintro e w1 ⟨rfl, b1⟩
  have hbd1 := isBuilder_below hbld b1
  have hb1 : Below w.heap.size w w1 := ((Below.refl _ w).alloc (Nat.le_refl _) _).trans (b1.mono (by simp))
  go_wp2_with fail
  refine (writeString_calls w.heap.size w.heap.size _ _ _ hbd1 (by rw [str_size, pBig_length]; simp) hb1.size).mono ?_
  rintro e w2 ⟨rfl, h2, b2, k2⟩
  rw [strCells_str, List.nil_append] at h2
  have hb2 := hb1.trans b2
  clear hbld b1 hbd1 hb1 b2 k2
  go_wp2
  go_loopw [7, 13] (fun _ i wr => ∃ k : Nat, k ≤ parts.length ∧ i = .int .i64 (k : Int) ∧ Lib.IsBuilderF 85 5 w.heap.size w.heap.size (Lib.byteCells (pBig dom 1 ++ (parts.take k).flatMap pText4)) wr ∧ Below w.heap.size w wr) (fun _ i _ => parts.length - (intOf i).toNat)
  case atStart => exact ⟨0, by omega, rfl, by rw [List.take_zero, List.flatMap_nil, List.append_nil]; exact Or.inr h2, hb2⟩
  case round =>
    clear h2 hb2
    obtain ⟨k, hk, rfl, hB, hb⟩ := hrel
    have hz := hb.size
    by_cases hlt : k < parts.length
    · have hd1 : decide ((k : Int) < (parts.length : Int)) = true := by simp; omega
      have bk : (0 : Int) ≤ k ∧ (k : Int) < (parts.length : Int) := by omega
      obtain ⟨g, o, rfl, hg, hc⟩ : ∃ b o, a = some ⟨b, o, none⟩ ∧ b < w.heap.size ∧ ∀ j, j < parts.length → w.cell? ⟨b, o + j, none⟩ = some (.string (str (parts.getD j []))) := by
        rcases unhide HS with h | h
        · rw [h] at hlt; simp at hlt
        · exact h
      have c : wr.cell? ⟨g, o + k, none⟩ = some (.string (str (parts.getD k []))) := by rw [hb.cell (p := ⟨g, o + k, none⟩) hg]; exact hc k hlt
      have hpk : (parts.getD k []).length ≤ 100000000 := by
        rw [List.getD_eq_getElem?_getD, List.getElem?_eq_getElem hlt]; exact unhide HP _ (List.getElem_mem _)
      have hnew : pBig dom 1 ++ (parts.take (k + 1)).flatMap pText4 = (pBig dom 1 ++ (parts.take k).flatMap pText4) ++ pText4 (parts.getD k []) := by
        rw [take_snoc' parts k [] hlt, List.flatMap_append]; simp
      have hl0 := unhide HB0 k
      have hpl := pText4_length (parts.getD k [])
      have hbl := pBig_length dom 1
      have hal : (pBig dom 1 ++ (parts.take k).flatMap pText4).length ≤ 200000000001 := by rw [List.length_append]; omega
      generalize pBig dom 1 ++ (parts.take k).flatMap pText4 = acc at *
      generalize parts.getD k [] = pt at *
      have ct := fun w => wtext_calls pt (by omega) w
      generalize pText4 pt = tx at *
      have Hnew := hide hnew
      clear hc hnew hbl hl0
      go_wp2_with fail
      refine (ct _).mono ?_
      rintro e w3 ⟨rfl, b3⟩
      have hB3 := isBuilder_below hB b3
      have hb3 := hb.trans (b3.mono hz)
      go_wp2_with fail
      refine (writeString_calls w.heap.size w.heap.size _ _ _ hB3 (by rw [str_size, Lib.byteCells_length]; omega) hb3.size).mono ?_
      rintro e w4 ⟨rfl, h4, b4, k4⟩
      rw [strCells_str, ← Lib.byteCells_append] at h4
      go_wp2
      go_roundw
      case rel => exact ⟨k + 1, by omega, by go_num, by rw [unhide Hnew]; exact Or.inr h4, hb3.trans b4⟩
      case measure => simp [intOf]; omega
    · have hd1 : decide ((k : Int) < (parts.length : Int)) = false := by simp; omega
      rw [List.take_of_length_le (by omega)] at hB
      have hR' : pBig dom 1 ++ parts.flatMap pText4 = R := unhide hR
      rw [hR'] at hB
      clear hR'
      go_wp2_with fail
      refine (string_calls w.heap.size w.heap.size R _ hB (by omega)).mono ?_
      rintro e w3 ⟨rfl, _, b3, _⟩
      go_wp2
      go_ret
      exact ⟨rfl, hb.trans b3⟩
/-- Strings in a row of memory that was just made. -/
theorem strsAt_one (w : World) (l : List UInt8) (t : TypeId) : StrsAt (w.alloc (.cells #[.string (str l)] t)) (some ⟨w.heap.size, 0, none⟩) [l] := by
  refine .inr ⟨w.heap.size, 0, rfl, by simp, fun j hj => ?_⟩
  have : j = 0 := by simp at hj; omega
  subst this
  go_simp
theorem digInfo (l : List UInt8) (h : l.length = 32) : (Tryd.prog.info? 23).map (·.size) = some (bc l).size := by rw [bc_size, h]; kernel_rfl
theorem zeroSize (l : List UInt8) (h : l.length = 32) : (bc (List.replicate 32 (0 : UInt8))).size = (bc l).size := by rw [bc_size, bc_size, h]; rfl
theorem noteNil_calls (s : ByteArray) (cs : Array Value) (w : World) :
    Calls Tryd.prog 53 #[.pointer none, .string s, .agg cs] w fun e w' => e = .returned (.tuple #[]) ∧ Below w.heap.size w w' := by
  go_enter Tryd.func53, Tryd.ntmps53
  go_wp2
  exact bodyPost_ret (results_none rfl _ _ _) rfl ⟨rfl, (Below.refl _ _).alloc (Nat.le_refl _) _⟩
set_option maxHeartbeats 2000000 in
set_option maxRecDepth 100000 in
theorem ofNil_calls (dom : Nat) (hd : dom < 256) (parts : List (List UInt8)) (hp : ∀ p ∈ parts, p.length ≤ 100000000) (hn : parts.length ≤ 1000) (a : Option Addr) (cap : Nat) (w : World) (hs : StrsAt w a parts) (tabs : Tabs w) :
    Calls Tryd.prog 41 #[.pointer none, .int .u8 (dom : Int), .slice a parts.length cap] w fun e w' => e = .returned (.agg (bc (pOf dom parts))) ∧ Below w.heap.size w w' := by
  have ci := fun w hs => inputOf_calls dom hd parts hp hn a cap w hs
  have hil := pInput_len dom parts hp hn
  have hol := pOf_length dom parts
  unfold pOf at *
  generalize pInput dom parts = I at *
  have cs := fun g w hs tabs => sum_calls [I] (by simp; omega) (by simp) (some ⟨g, 0, none⟩) 1 w hs tabs
  have hi1 := digInfo (pSum [I]) hol
  have hz1 := zeroSize (pSum [I]) hol
  have ho1 := bc_oneCell (pSum [I])
  generalize pSum [I] = D at *
  have Ci := hide ci
  have Cs := hide cs
  have HS := hide hs
  have HT := hide tabs
  clear ci cs hs tabs hp
  go_enter Tryd.func41, Tryd.ntmps41
  go_wp2_with fail
  have hb0 : Below w.heap.size w (w.alloc (.cells (bc (List.replicate 32 0)) 23)) := (Below.refl _ w).alloc (Nat.le_refl _) _
  refine (unhide Ci _ ((unhide HS).below hb0 (Nat.le_refl _))).mono ?_
  rintro e w1 ⟨rfl, b1⟩
  have q0 : w1.heap[w.heap.size]? = some (.cells (bc (List.replicate 32 0)) 23 (0, 0)) := Below.at b1 (by simp) (al1 _ _)
  have hb1 : Below w.heap.size w w1 := hb0.trans (b1.mono (by simp))
  have z1 : w.heap.size < w1.heap.size := by have := b1.size; simp at this; omega
  clear hb0 b1
  go_wp2_with fail
  refine (unhide Cs _ _ (strsAt_one w1 I _) (((unhide HT).below hb1 (Nat.le_refl _)).below' ((Below.refl _ w1).alloc (Nat.le_refl _) _))).mono ?_
  rintro e w2 ⟨rfl, b2⟩
  have q0' := Below.at b2 (by simp; omega) ((Below.heap_alloc w1 (.cells #[.string (str I)] 9) _ z1).trans q0)
  have hb2 : Below w.heap.size w w2 := (hb1.alloc (by omega) _).trans (b2.mono (by simp; omega))
  have z2 : w.heap.size < w2.heap.size := by have := b2.size; simp at this; omega
  clear hb1 b2 q0 Cs Ci
  go_wp2_with (first
    | (refine wpList_store_row rfl 23 (.tmp 8) (.tmp 14) rfl w2.heap.size _ rfl rfl 23 _ (al1 _ _) hi1 hz1 ho1 ?_)
    | (refine wpList_load_row rfl 23 (.tmp 8) rfl w2.heap.size rfl 23 _ (0, 0) _ (setRow_heap _ _ _ (bc D) _ _ (al1 w2 (.cells (bc (List.replicate 32 0)) 23))) Tryd.underlying23 rfl hi1 ?_))
  have q8 := setRow_heap _ _ _ (bc D) _ _ (al1 w2 (.cells (bc (List.replicate 32 0)) 23))
  have q9 := (setRow_other (w2.alloc (.cells (bc (List.replicate 32 0)) 23)) w2.heap.size w.heap.size (bc D) (by omega)).trans ((Below.heap_alloc w2 _ _ z2).trans q0')
  have hb3 := below_setRow (hb2.alloc (by omega) (.cells (bc (List.replicate 32 0)) 23)) (Nat.le_of_lt z2) (bc D)
  have z3 : w2.heap.size < (w2.alloc (.cells (bc (List.replicate 32 0)) 23)).heap.size := by simp
  refine (noteNil_calls _ _ _).mono ?_
  rintro e w4 ⟨rfl, b4⟩
  have q8' := Below.at b4 (by rw [setRow_size, World.size_alloc]; omega) q8
  have q9' := Below.at b4 (by rw [setRow_size, World.size_alloc]; omega) q9
  have hb4 := hb3.trans (b4.mono (by rw [setRow_size, World.size_alloc]; omega))
  clear q8 q9 hb3 b4
  go_wp2_with (first
    | (refine wpList_load_row rfl 23 (.tmp 8) rfl w2.heap.size rfl 23 _ (0, 0) _ q8' Tryd.underlying23 rfl hi1 ?_)
    | (refine wpList_store_row rfl 23 (.tmp 6) (.tmp 19) rfl w.heap.size _ rfl rfl 23 _ q9' hi1 hz1 ho1 ?_))
  exact bodyPost_ret (results_cell_row rfl _ _ w.heap.size _ _ _ _ rfl (setRow_heap _ _ _ _ _ _ q9') Tryd.underlying23 rfl hi1) rfl ⟨rfl, below_setRow hb4 (Nat.le_refl _) _⟩
end Go.Proofs.YtonmccmeljeopaaDoor

namespace Go.Proofs.YtonmccmeljeopaaDoor
open Go.RowKit
set_option linter.unusedSimpArgs false
set_option linter.unusedVariables false

theorem byte256 (q : Nat) : (q : Int) % 256 = ((UInt8.ofNat q).toNat : Int) := by
  rw [UInt8.toNat_ofNat']
  show (q : Int) % 256 = ((q % 256 : Nat) : Int)
  omega
set_option maxHeartbeats 400000 in
set_option maxRecDepth 100000 in
theorem rbig_calls (n k : Nat) (hn : n < 18446744073709551616) (hk : k ≤ 8) (hk1 : 1 ≤ k) (w : World) :
    Calls Tryd.prog 47 #[.int .u64 (n : Int), .int .i64 (k : Int)] w fun e w' => e = .returned (.string (str (pBig n k))) ∧ Below w.heap.size w w' := by
  have hlen := pBig_length n k
  have hat := pBig_at n k
  generalize hP : pBig n k = P at *
  have HP := hide hP
  have Hlen := hide hlen
  have Hat := hide hat
  clear hP hlen hat
  go_enter Tryd.func47, Tryd.ntmps47
  go_wp2
  go_loopw [0, 6] (fun a i wr => ∃ j m : Nat, j ≤ k ∧ Hid (m = n / 2 ^ (8 * (k - j))) ∧ a = .int .u64 (m : Int) ∧ i = .int .i64 ((j : Int) - 1) ∧ Below w.heap.size w wr ∧ wr.heap[w.heap.size]? = some (.cells (bc (List.replicate j 0 ++ P.drop j ++ List.replicate (8 - k) 0)) 98 (0, 0))) (fun _ i _ => (intOf i + 1).toNat)
  case atStart =>
    refine ⟨k, n, Nat.le_refl _, ?_, rfl, rfl, (Below.refl _ _).alloc (Nat.le_refl _) _, ?_⟩
    · show n = _; simp
    · rw [al1, List.drop_of_length_le (by rw [unhide Hlen]; omega), List.append_nil, List.replicate_append_replicate, show k + (8 - k) = 8 by omega]; rfl
  case round =>
    obtain ⟨j, m, hj, hm, rfl, rfl, hb, q⟩ := hrel
    cases j with
    | succ j =>
      rw [show ((j + 1 : Nat) : Int) - 1 = (j : Int) by omega]
      have hd : decide ((0 : Int) ≤ (j : Int)) = true := by simp
      have hsp : List.replicate (j + 1) (0 : UInt8) ++ P.drop (j + 1) ++ List.replicate (8 - k) 0 = List.replicate j 0 ++ 0 :: (P.drop (j + 1) ++ List.replicate (8 - k) 0) := by
        rw [List.replicate_succ']; simp
      rw [hsp] at q
      have hl : (List.replicate j 0 ++ 0 :: (P.drop (j + 1) ++ List.replicate (8 - k) 0) : List UInt8).length = 8 := by simp [unhide Hlen]; omega
      have c : wr.cell? ⟨w.heap.size, j, none⟩ = some (.int .u8 (((List.replicate j 0 ++ 0 :: (P.drop (j + 1) ++ List.replicate (8 - k) 0) : List UInt8).getD j 0).toNat : Int)) := by
        rw [cell_of_row _ _ _ _ _ _ q]; exact bc_at _ _ (by omega)
      have f : wr.frozen? ⟨w.heap.size, j, none⟩ = false := frozen_of_row _ _ _ _ _ q
      have b1 : (j : Int) < 8 := by omega
      generalize hv : (List.replicate j 0 ++ 0 :: (P.drop (j + 1) ++ List.replicate (8 - k) 0) : List UInt8).getD j 0 = v at c
      obtain ⟨m2, hm2, em2⟩ : ∃ m2 : Nat, Hid (m / 256 = m2) ∧ (m : Int) / 256 = (m2 : Int) := ⟨_, rfl, by omega⟩
      have hmn : m ≤ n := by rw [unhide hm]; exact Nat.div_le_self _ _
      have wu := wu64 (m2 : Int) (by omega) (by have := unhide hm2; omega)
      have Q := hide q
      clear hl hv q hsp hmn
      go_wp2
      go_roundw
      case rel =>
        refine ⟨j, m2, by omega, ?_, rfl, by go_num, hb.setCell (by simp) _, ?_⟩
        · show m2 = _
          rw [← unhide hm2, unhide hm, Nat.div_div_eq_div_mul, show (256 : Nat) = 2 ^ 8 from rfl, ← Nat.pow_add, show 8 * (k - (j + 1)) + 8 = 8 * (k - j) by omega]
        · rw [byte256, heap_setCell_same _ _ _ _ _ _ (unhide Q), bc_set _ _ _ _ _ (by simp)]
          have e2 := unhide Hat j (by omega)
          rw [show k - 1 - j = k - (j + 1) by omega, ← unhide hm] at e2
          rw [drop_cons' P j 0 (by rw [unhide Hlen]; omega), e2]; simp
      case measure => simp [intOf]
    | zero =>
      have hd : decide ((0 : Int) ≤ (((0 : Nat) : Int) - 1)) = false := by decide
      have q' : wr.heap[w.heap.size]? = some (.cells (bc (P ++ List.replicate (8 - k) 0)) 98 (0, 0)) := by
        rw [q]; simp
      have hcv := run_convert_bytes_back (P := Tryd.prog) wr 71 9 5 ⟨w.heap.size, 0, none⟩ 8 P Tryd.underlying71 Tryd.underlying5 Tryd.underlying9 (fun j hj => by
        have hadd : (⟨w.heap.size, 0, none⟩ : Addr).add j = ⟨w.heap.size, j, none⟩ := by unfold Addr.add; split <;> simp_all
        rw [hadd, cell_of_row _ _ _ _ _ _ q', bc_at _ _ (by simp; omega)]; simp [hj, List.getElem?_append_left])
      rw [unhide Hlen] at hcv
      have b1 : (k : Int) ≤ 8 := by omega
      clear q q'
      go_wp2
      go_ret
      exact ⟨by rfl, hb⟩
theorem rtext3_calls (l : List UInt8) (hl : l.length < 4294967296) (w : World) :
    Calls Tryd.prog 56 #[.string (str l)] w fun e w' => e = .returned (.string (str (pText4 l))) ∧ Below w.heap.size w w' := by
  have hc := rbig_calls l.length 4 (by omega) (by decide) (by decide) w
  unfold pText4
  have hlen := pBig_length l.length 4
  generalize pBig l.length 4 = B at *
  have Hc := hide hc
  have ea := append_str B l
  have n1 : ¬ 9223372036854775807 < B.length + l.length := by omega
  clear hc hlen
  go_enter Tryd.func56, Tryd.ntmps56
  go_wp2_with fail
  refine (unhide Hc).mono ?_
  rintro e w' ⟨rfl, hb⟩
  go_wp2
  go_ret
  exact ⟨rfl, hb⟩
set_option maxRecDepth 100000 in
theorem rbytes_calls (d : List UInt8) (hd : d.length = 32) (w : World) :
    Calls Tryd.prog 33 #[.agg (bc d)] w fun e w' => e = .returned (.string (str d)) ∧ Below w.heap.size w w' := by
  have q := al1 w (.cells (bc d) 23)
  have hcv := run_convert_bytes_back (P := Tryd.prog) (w.alloc (.cells (bc d) 23)) 71 9 5 ⟨w.heap.size, 0, none⟩ 32 d Tryd.underlying71 Tryd.underlying5 Tryd.underlying9 (fun j hj => by
    have hadd : (⟨w.heap.size, 0, none⟩ : Addr).add j = ⟨w.heap.size, j, none⟩ := by unfold Addr.add; split <;> simp_all
    rw [hadd, cell_of_row _ _ _ _ _ _ q, bc_at _ _ hj]; simp [hj])
  rw [hd] at hcv
  clear q
  go_enter Tryd.func33, Tryd.ntmps33
  go_wp2
  go_ret
  exact ⟨rfl, (Below.refl _ _).alloc (Nat.le_refl _) _⟩
end Go.Proofs.YtonmccmeljeopaaDoor

namespace Go.Proofs.YtonmccmeljeopaaDoor
open Go.RowKit
set_option linter.unusedSimpArgs false
set_option linter.unusedVariables false

set_option maxHeartbeats 400000 in
theorem rturn_calls (x : BitVec 32) (n : Int) (h0 : 0 < n) (h : n < 32) (w : World) :
    Calls Tryd.prog 70 #[.int .u32 x.toNat, .int .u64 n] w fun e w' => e = .returned (.int .u32 (rotr x n.toNat).toNat) ∧ w' = w := by
  obtain ⟨m, rfl⟩ := Int.eq_ofNat_of_zero_le (Int.le_of_lt h0)
  have ht : (32 : Int) - (m : Int) = ((32 - m : Nat) : Int) := by omega
  have hw := wu64 ((32 - m : Nat) : Int) (by omega) (by omega)
  go_enter Tryd.func70, Tryd.ntmps70
  go_wp2
  go_ret
  refine ⟨?_, rfl⟩
  show Ending.returned (.int .u32 (bits BinOp.or IntKind.u32 (↑x.toNat / 2 ^ m) (↑x.toNat * 2 ^ (32 - m) % 4294967296))) = _
  rw [b_shl, b_shr, b_or, BitVec.or_comm]
  simp only [rotr, rotl, Int.toNat_natCast]
  rw [show 32 - (32 - m) = m by omega]

def rkInts : List Int := kWords.map fun x => (x.toNat : Int)
theorem rkInts_cells : (rkInts.map (Value.int .u32)).toArray = wc kWords := by simp [rkInts, wc, List.map_map, Function.comp_def]
set_option maxHeartbeats 1000000 in
set_option maxRecDepth 100000 in
theorem constants_calls (w : World) :
    Calls Tryd.prog 69 #[] w fun e w' => e = .returned (.agg (wc kWords)) ∧ Below w.heap.size w w' := by
  have hi : (Tryd.prog.info? 122).map (·.size) = some (wc kWords).size := by rw [wc_size]; kernel_rfl
  have hb : Below w.heap.size w (w.alloc (.cells (wc (List.replicate 64 0)) 122)) := (Below.refl _ _).alloc (Nat.le_refl _) _
  have hq : (w.alloc (.cells (wc (List.replicate 64 0)) 122)).heap[w.heap.size]? = some (.cells (wc (List.replicate 64 0)) 122 (0, 0)) := al1 _ _
  go_enter Tryd.func69, Tryd.ntmps69
  go_wp2_with (first
    | (refine wpList_buildFlatArr rfl 122 81 64 _ rfl .u32 rkInts Tryd.underlying122 u8w (by kernel_rfl) (by kernel_rfl) ?_; rw [rkInts_cells])
    | (refine wpList_store_row rfl 122 (.tmp 0) (.tmp 1) rfl w.heap.size _ rfl rfl 122 _ hq hi (by rw [wc_size, wc_size]; rfl) (wc_oneCell _) ?_))
  exact bodyPost_ret (results_cell_row rfl _ _ w.heap.size _ _ _ _ rfl (setRow_heap _ _ _ _ _ _ hq) Tryd.underlying122 rfl hi) rfl ⟨rfl, below_setRow hb (Nat.le_refl _) _⟩

set_option maxHeartbeats 400000 in
set_option maxRecDepth 100000 in
theorem first_calls (w : World) :
    Calls Tryd.prog 58 #[] w fun e w' => e = .returned (.agg (wc hWords)) ∧ Below w.heap.size w w' := by
  go_enter Tryd.func58, Tryd.ntmps58
  go_wp2
  exact bodyPost_ret (results_cell_row rfl _ _ w.heap.size _ _ _ _ rfl (al1 _ _) Tryd.underlying100 rfl (by kernel_rfl)) rfl ⟨rfl, (Below.refl _ _).alloc (Nat.le_refl _) _⟩
end Go.Proofs.YtonmccmeljeopaaDoor

namespace Go.Proofs.YtonmccmeljeopaaDoor
open Go.RowKit
set_option linter.unusedSimpArgs false
set_option linter.unusedVariables false

/-- Bytes lie in memory from a place on. -/
def Bytes (w : World) (g off : Nat) (l : List UInt8) : Prop := ∀ j, j < l.length → w.cell? ⟨g, off + j, none⟩ = some (.int .u8 ((l.getD j 0).toNat : Int))
theorem Bytes.below {B g off : Nat} {l : List UInt8} {w w' : World} (h : Bytes w g off l) (hb : Below B w w') (hg : g < B) : Bytes w' g off l := fun j hj => by
  rw [hb.cell (p := ⟨g, off + j, none⟩) hg]; exact h j hj

theorem Bytes.take {w : World} {g off : Nat} {l : List UInt8} (h : Bytes w g off l) (n : Nat) : Bytes w g off (l.take n) := fun j hj => by
  have hj' : j < n ∧ j < l.length := by simp at hj; omega
  rw [h j hj'.2]
  simp [hj'.1]
theorem Bytes.drop {w : World} {g off : Nat} {l : List UInt8} (h : Bytes w g off l) (n : Nat) : Bytes w g (off + n) (l.drop n) := fun j hj => by
  have hj' : n + j < l.length := by simp at hj; omega
  rw [show off + n + j = off + (n + j) by omega, h _ hj']
  simp
def bcap (w : World) (l : List UInt8) : Nat := grownCap w l.length 0 5
def bworld (w : World) (l : List UInt8) : World := w.drew.alloc (.cells (bytesRow (str l) (bcap w l)) 5 ((bytesRow (str l) (bcap w l)).size, (bytesRow (str l) (bcap w l)).size + 1))
theorem conv_run (l : List UInt8) (w : World) : (convert 9 71 (.string (str l))).run Tryd.prog w = .ok (.slice (some ⟨w.heap.size, 0, none⟩) l.length (bcap w l)) (bworld w l) := by
  have := run_bytes_of_string (P := Tryd.prog) w 9 71 5 (str l) Tryd.underlying9 Tryd.underlying71 Tryd.underlying5
  rw [str_size] at this
  exact this
theorem bworld_size (w : World) (l : List UInt8) : (bworld w l).heap.size = w.heap.size + 1 := by simp [bworld]
theorem bworld_below {B : Nat} {W w : World} (l : List UInt8) (h : Below B W w) (hB : B ≤ w.heap.size) : Below B W (bworld w l) := (h.drew).alloc hB _
theorem bworld_bytes (w : World) (l : List UInt8) : Bytes (bworld w l) w.heap.size 0 l := fun j hj => by
  have h : (bworld w l).heap[w.heap.size]? = some (.cells (bytesRow (str l) (bcap w l)) 5 ((bytesRow (str l) (bcap w l)).size, (bytesRow (str l) (bcap w l)).size + 1)) := al1 w.drew _
  rw [cell_of_row _ _ _ _ _ _ h, Nat.zero_add, bytesRow_at _ _ _ (by simpa [str] using hj)]
  simp [str, hj]
theorem bcap_ge (w : World) (l : List UInt8) : l.length ≤ bcap w l := grownCap_ge _ _ _ _
theorem bcap_le (w : World) (l : List UInt8) (h : l.length ≤ maxLen) : bcap w l ≤ maxLen := grownCap_le_maxLen _ _ _ _ h
theorem bworld_kept {w w' : World} {l : List UInt8} (hb : Below (bworld w l).heap.size (bworld w l) w') : Hid (Bytes w' w.heap.size 0 l) ∧ w.heap.size < w'.heap.size := by
  have hz := hb.size
  have h1 := bworld_size w l
  exact ⟨(bworld_bytes w l).below hb (by omega), by omega⟩
theorem bworld_kept_drew {w w' : World} {l : List UInt8} (hb : Below (bworld w l).drew.heap.size (bworld w l).drew w') : Hid (Bytes w' w.heap.size 0 l) ∧ w.heap.size < w'.heap.size :=
  bworld_kept (l := l) ⟨hb.os, hb.tape, hb.output, hb.size, hb.block⟩
end Go.Proofs.YtonmccmeljeopaaDoor
