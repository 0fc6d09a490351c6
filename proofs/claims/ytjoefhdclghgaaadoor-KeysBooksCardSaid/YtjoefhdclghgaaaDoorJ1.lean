/-
  WHAT sha's Begin AND Add RETURN.
-/
/-
  BYTES AS CELLS OF MEMORY; numbers of eight bytes, the highest first. Plain definitions and lemmas.
-/
/-
  WHAT sha.padding RETURNS.
-/
/-
  WHAT sha's End RETURNS.
-/
/-
  WHAT sha.Sum RETURNS.
-/
/-
  WHAT digest's inputOf RETURNS; what Of returns where there is no log.
-/
/-
  KEYS UNDER ONE ROOT, PLAIN: a leaf's path climbs to the root.
-/
/-
  WHAT wire's Digest RETURNS.
-/
/-
  A ROW LOADED WHOLE INSIDE A REGION THAT DRAWS ITS ORDER, as a step of the quiet walk. Over whatever program.
-/
/-
  A REGION THAT DRAWS ITS ORDER: quiet operations first (reads; calls that lay memory and turn none), all of which the rest waits for; the rest in whatever order is left to it. Over whatever program.
-/
/-
  THE DIGEST OF TWO DIGESTS, OF ANY DOMAIN, where there is no log.
-/
import Derived.Test.YtjoefhdclghgaaaDoorJ0
import Derived.Deep.RegionHeld3
import Derived.Deep.DeepCutAuto
import Derived.Deep.MidRow
import Derived.Laws.Rows
namespace Go.Proofs.YtjoefhdclghgaaaDoor
open Go.RowKit
set_option linter.unusedSimpArgs false
set_option linter.unusedVariables false

theorem Tabs.below' {w w' : World} (t : Tabs w) (hb : Below w.heap.size w w') : Tabs w' := t.below hb (Nat.le_refl _)

set_option maxHeartbeats 400000 in
set_option maxRecDepth 100000 in
theorem begin_calls (w : World) (tabs : Tabs w) :
    Calls Tryd.prog 47 #[] w fun e w' => e = .returned (.agg pBegin.cells) ∧ Below w.heap.size w w' := by
  have k0 : w.cell? ⟨0, 0, none⟩ = some (.int .u32 1779033703) := tabs.h 0 (by decide)
  have k1 : w.cell? ⟨0, 1, none⟩ = some (.int .u32 3144134277) := tabs.h 1 (by decide)
  have k2 : w.cell? ⟨0, 2, none⟩ = some (.int .u32 1013904242) := tabs.h 2 (by decide)
  have k3 : w.cell? ⟨0, 3, none⟩ = some (.int .u32 2773480762) := tabs.h 3 (by decide)
  have k4 : w.cell? ⟨0, 4, none⟩ = some (.int .u32 1359893119) := tabs.h 4 (by decide)
  have k5 : w.cell? ⟨0, 5, none⟩ = some (.int .u32 2600822924) := tabs.h 5 (by decide)
  have k6 : w.cell? ⟨0, 6, none⟩ = some (.int .u32 528734635) := tabs.h 6 (by decide)
  have k7 : w.cell? ⟨0, 7, none⟩ = some (.int .u32 1541459225) := tabs.h 7 (by decide)
  have hz := tabs.size
  go_enter Tryd.func47, Tryd.ntmps47
  go_wp2
  exact bodyPost_ret (results_cell_row rfl _ _ w.heap.size _ _ _ _ rfl (al1 _ _) Tryd.underlying97 rfl (by kernel_rfl)) rfl ⟨rfl, (Below.refl _ _).alloc (Nat.le_refl _) _⟩

set_option maxHeartbeats 400000 in
set_option maxRecDepth 100000 in
theorem add_calls (st : St) (l : List UInt8) (hl : st.rest.length + l.length ≤ 140737488355328) (w : World) (tabs : Tabs w) :
    Calls Tryd.prog 48 #[.agg st.cells, .string (str l)] w fun e w' => e = .returned (.agg (pAdd st l).cells) ∧ Below w.heap.size w w' := by
  obtain ⟨⟨a, b, c, d, e, f, g, h⟩, rest, count⟩ := st
  simp only [St.cells]
  have hl : rest.length + l.length ≤ 140737488355328 := hl
  have ea := append_str rest l
  have n1 : ¬ 9223372036854775807 < rest.length + l.length := by omega
  go_enter Tryd.func48, Tryd.ntmps48
  go_wp2_with fail
  refine (through_lit a b c d e f g h (rest ++ l) (by simp [maxLen]; omega) _ (tabs.below' (bel2 _ _ _))).mono ?_
  rintro en w1 ⟨r0, r1, r2, r3, r4, r5, r6, r7, m, rfl, HT, hb1⟩
  have z1 : w.heap.size + 1 + 1 ≤ w1.heap.size := by have := hb1.size; simpa using this
  have q0 := Below.at hb1 (by simp; omega) (al2 _ _ _).1
  have q1 := Below.at hb1 (by simp) (al2 _ _ _).2
  have hb : Below w.heap.size w w1 := (bel2 _ _ _).trans (hb1.mono (by simp; omega))
  clear hb1
  have Q0 := hide q0
  have Q1 := hide q1
  clear q0 q1
  go_wp2_with fail
  have q2 := al1 w1 (.cells #[.int .u32 (r0.toNat : Int), .int .u32 (r1.toNat : Int), .int .u32 (r2.toNat : Int), .int .u32 (r3.toNat : Int), .int .u32 (r4.toNat : Int), .int .u32 (r5.toNat : Int), .int .u32 (r6.toNat : Int), .int .u32 (r7.toNat : Int)] 95)
  have q0 := Below.at ((Below.refl w1.heap.size w1).alloc (Nat.le_refl _) (.cells #[.int .u32 (r0.toNat : Int), .int .u32 (r1.toNat : Int), .int .u32 (r2.toNat : Int), .int .u32 (r3.toNat : Int), .int .u32 (r4.toNat : Int), .int .u32 (r5.toNat : Int), .int .u32 (r6.toNat : Int), .int .u32 (r7.toNat : Int)] 95)) (by omega) (unhide Q0)
  have q1 := Below.at ((Below.refl w1.heap.size w1).alloc (Nat.le_refl _) (.cells #[.int .u32 (r0.toNat : Int), .int .u32 (r1.toNat : Int), .int .u32 (r2.toNat : Int), .int .u32 (r3.toNat : Int), .int .u32 (r4.toNat : Int), .int .u32 (r5.toNat : Int), .int .u32 (r6.toNat : Int), .int .u32 (r7.toNat : Int)] 95)) (by omega) (unhide Q1)
  have hb2 := hb.alloc (by omega) (.cells #[.int .u32 (r0.toNat : Int), .int .u32 (r1.toNat : Int), .int .u32 (r2.toNat : Int), .int .u32 (r3.toNat : Int), .int .u32 (r4.toNat : Int), .int .u32 (r5.toNat : Int), .int .u32 (r6.toNat : Int), .int .u32 (r7.toNat : Int)] 95)
  generalize hw2 : w1.alloc (.cells #[.int .u32 (r0.toNat : Int), .int .u32 (r1.toNat : Int), .int .u32 (r2.toNat : Int), .int .u32 (r3.toNat : Int), .int .u32 (r4.toNat : Int), .int .u32 (r5.toNat : Int), .int .u32 (r6.toNat : Int), .int .u32 (r7.toNat : Int)] 95) = w2 at *
  have z2 : w2.heap.size = w1.heap.size + 1 := by rw [← hw2]; simp
  have c0 : ∀ d os, (Sort.grow (redrawn w2 d) os).cell? ⟨w1.heap.size, 0, none⟩ = some (.int .u32 (r0.toNat : Int)) := cell_regrown (cell_of_row _ _ _ _ _ _ q2)
  have c1 : ∀ d os, (Sort.grow (redrawn w2 d) os).cell? ⟨w1.heap.size, 1, none⟩ = some (.int .u32 (r1.toNat : Int)) := cell_regrown (cell_of_row _ _ _ _ _ _ q2)
  have c2 : ∀ d os, (Sort.grow (redrawn w2 d) os).cell? ⟨w1.heap.size, 2, none⟩ = some (.int .u32 (r2.toNat : Int)) := cell_regrown (cell_of_row _ _ _ _ _ _ q2)
  have c3 : ∀ d os, (Sort.grow (redrawn w2 d) os).cell? ⟨w1.heap.size, 3, none⟩ = some (.int .u32 (r3.toNat : Int)) := cell_regrown (cell_of_row _ _ _ _ _ _ q2)
  have c4 : ∀ d os, (Sort.grow (redrawn w2 d) os).cell? ⟨w1.heap.size, 4, none⟩ = some (.int .u32 (r4.toNat : Int)) := cell_regrown (cell_of_row _ _ _ _ _ _ q2)
  have c5 : ∀ d os, (Sort.grow (redrawn w2 d) os).cell? ⟨w1.heap.size, 5, none⟩ = some (.int .u32 (r5.toNat : Int)) := cell_regrown (cell_of_row _ _ _ _ _ _ q2)
  have c6 : ∀ d os, (Sort.grow (redrawn w2 d) os).cell? ⟨w1.heap.size, 6, none⟩ = some (.int .u32 (r6.toNat : Int)) := cell_regrown (cell_of_row _ _ _ _ _ _ q2)
  have c7 : ∀ d os, (Sort.grow (redrawn w2 d) os).cell? ⟨w1.heap.size, 7, none⟩ = some (.int .u32 (r7.toNat : Int)) := cell_regrown (cell_of_row _ _ _ _ _ _ q2)
  have c9 : ∀ d os, (Sort.grow (redrawn w2 d) os).cell? ⟨w.heap.size, 9, none⟩ = some (.int .u64 (count.toNat : Int)) := cell_regrown (cell_of_row _ _ _ _ _ _ q0)
  obtain ⟨x, hx, ex⟩ : ∃ x : BitVec 64, Hid (BitVec.ofNat 64 l.length = x) ∧ IntKind.u64.wrap (l.length : Int) = (x.toNat : Int) := ⟨_, rfl, by rw [IntKind.wrap_u64]; simp⟩
  have hm := pThrough_rest_le ⟨a, b, c, d, e, f, g, h⟩ (rest ++ l)
  rw [unhide HT] at hm
  have hcl : ∀ d os, _ := fun d os => Calls.regrown_of (w := w2) (d := d) (os := os) (clone_calls (str m) _ (by simp; simp at hm; omega))
  have aw := a64_wrap
  clear hw2 hb Q0 Q1 hm
  have Q1 := hide q1
  clear q0 q1 q2
  refine wp_region_below_tail 10 mixed (by kernel_rfl) ?_
  simp only [List.take_succ_cons, List.take_zero, List.drop_succ_cons, List.drop_zero]
  repeat (quiet_step (exact hcl _ _))
  refine wpQuiet_nil ?_
  intro w3 hb3
  have q1' := Below.at hb3 (by omega) (unhide Q1)
  have hst : pAdd ⟨⟨a, b, c, d, e, f, g, h⟩, rest, count⟩ l = ⟨⟨r0, r1, r2, r3, r4, r5, r6, r7⟩, m, add64 count x⟩ := by
    simp only [pAdd]; rw [unhide HT, unhide hx]
  have Hst := hide hst
  clear hst Q1
  have hi : (Tryd.prog.info? 97).map (·.size) = some (St.mk ⟨r0, r1, r2, r3, r4, r5, r6, r7⟩ m (add64 count x)).cells.size := by show _ = some 10; kernel_rfl
  have ho := St.oneCell ⟨⟨r0, r1, r2, r3, r4, r5, r6, r7⟩, m, add64 count x⟩
  go_wp2_with (refine wpList_store_row rfl 97 (.tmp 4) (.tmp 26) rfl (w.heap.size + 1) _ rfl rfl 97 _ q1' hi rfl ho ?_)
  exact bodyPost_ret (results_cell_row rfl _ _ (w.heap.size + 1) _ _ _ _ rfl (setRow_heap _ _ _ _ _ _ q1') Tryd.underlying97 rfl hi) rfl ⟨by rw [unhide Hst], below_setRow (hb2.trans (hb3.mono (by omega))) (by simp) _⟩
end Go.Proofs.YtjoefhdclghgaaaDoor

namespace Go.Proofs.YtjoefhdclghgaaaDoor
open Go.RowKit
set_option linter.unusedSimpArgs false

/-- A number's eight bytes, the highest first. -/
def be64 (x : BitVec 64) : List UInt8 := (List.range 8).map fun i => UInt8.ofNat (x.toNat / 2 ^ (56 - 8 * i))
theorem be64_length (x : BitVec 64) : (be64 x).length = 8 := by simp [be64]
theorem be64_at (x : BitVec 64) (i : Nat) (h : i < 8) : (be64 x).getD i 0 = UInt8.ofNat (x.toNat / 2 ^ (56 - 8 * i)) := by
  simp [be64, h]
/-- How many noughts stand behind the byte 80. -/
def noughts (rest : Nat) : Nat := (119 - rest % 64) % 64
def mul8 (x : BitVec 64) : BitVec 64 := 8 * x
theorem m8_wrap (x : BitVec 64) : IntKind.u64.wrap (8 * (x.toNat : Int)) = ((mul8 x).toNat : Int) := by
  rw [IntKind.wrap_u64, mul8, BitVec.toNat_mul]
  show _ = ((8 * x.toNat % 18446744073709551616 : Nat) : Int)
  omega
/-- What makes a rest whole blocks, and tells the count. -/
def padBytes (rest : Nat) (count : BitVec 64) : List UInt8 := 128 :: (List.replicate (noughts rest) 0 ++ be64 (mul8 count))
theorem padBytes_length (rest : Nat) (count : BitVec 64) : (padBytes rest count).length = 9 + noughts rest := by simp [padBytes, be64_length]; omega

end Go.Proofs.YtjoefhdclghgaaaDoor

namespace Go.Proofs.YtjoefhdclghgaaaDoor
open Go.RowKit
set_option linter.unusedSimpArgs false
set_option linter.unusedVariables false

set_option maxHeartbeats 400000 in
set_option maxRecDepth 100000 in
theorem padding_calls (rest : Nat) (hr : rest ≤ 140737488355328) (count : BitVec 64) (w : World) :
    Calls Tryd.prog 53 #[.int .i64 (rest : Int), .int .u64 (count.toNat : Int)] w fun e w' => e = .returned (.string (str (padBytes rest count))) ∧ Below w.heap.size w w' := by
  generalize hn : noughts rest = n
  have hn64 : n < 64 := by rw [← hn]; exact Nat.mod_lt _ (by decide)
  have e1 : ((119 : Int) - (rest : Int) % 64) % 64 = (n : Int) := by rw [← hn, noughts]; omega
  have mk := make_bytes (1 + n + 8) (by omega)
  rw [show ((1 + n + 8 : Nat) : Int) = 1 + (n : Int) + 8 by omega] at mk
  have m8 := m8_wrap
  have Hn := hide hn
  clear hn
  go_enter Tryd.func53, Tryd.ntmps53
  go_wp2
  generalize hx : mul8 count = x
  have Hx := hide hx
  clear hx
  go_loopw [21] (fun i wr => ∃ k : Nat, k ≤ 8 ∧ i = .int .i64 k ∧ Below w.heap.size w wr ∧ wr.heap[w.heap.size]? = some (.cells (bc (128 :: (List.replicate n 0 ++ (be64 x).take k) ++ List.replicate (8 - k) 0)) 5 (0, 0))) (fun i _ => 8 - (intOf i).toNat)
  case atStart =>
    refine ⟨0, by omega, rfl, (Below.refl _ _).alloc (Nat.le_refl _) _, ?_⟩
    rw [al1, show 1 + n + 8 = (n + 8) + 1 by omega, List.replicate_succ]
    have := bc_set [] (List.replicate (n + 8) 0) 0 128 0 rfl
    simp only [List.nil_append] at this
    simp only [List.take_zero, List.append_nil, Nat.sub_zero, List.cons_append, List.replicate_append_replicate]
    exact congrArg (fun c => some (Obj.cells c 5 (0, 0))) this
  case round =>
    obtain ⟨k, hk, rfl, hb, q⟩ := hrel
    by_cases hlt : k < 8
    · have hl : (128 :: (List.replicate n 0 ++ (be64 x).take k) : List UInt8).length = 1 + n + k := by simp [be64_length]; omega
      have hlen : (128 :: (List.replicate n 0 ++ (be64 x).take k) ++ List.replicate (8 - k) 0 : List UInt8).length = 1 + n + 8 := by rw [List.length_append, hl, List.length_replicate]; omega
      have c : wr.cell? ⟨w.heap.size, 1 + n + k, none⟩ = some (.int .u8 (((128 :: (List.replicate n 0 ++ (be64 x).take k) ++ List.replicate (8 - k) 0 : List UInt8).getD (1 + n + k) 0).toNat : Int)) := by
        rw [cell_of_row _ _ _ _ _ _ q]; exact bc_at _ _ (by omega)
      have f : wr.frozen? ⟨w.heap.size, 1 + n + k, none⟩ = false := frozen_of_row _ _ _ _ _ q
      have b1 : (0 : Int) ≤ 1 + n + k ∧ (1 : Int) + n + k < 1 + n + 8 := by omega
      have Hl := hide hl
      obtain ⟨s, hs, es⟩ : ∃ s : Nat, Hid (56 - 8 * k = s) ∧ (56 : Int) - 8 * (k : Int) = (s : Int) := ⟨_, rfl, by omega⟩
      have hs64 : s ≤ 56 := by have := unhide hs; omega
      generalize hv : (128 :: (List.replicate n 0 ++ (be64 x).take k) ++ List.replicate (8 - k) 0 : List UInt8).getD (1 + n + k) 0 = v at c
      clear hlen hl hv mk m8
      go_wp2
      go_roundw
      case rel =>
        refine ⟨k + 1, by omega, by go_num, hb.setCell (by simp) _, ?_⟩
        rw [byte_mod, ← unhide hs, ← be64_at x k hlt]
        have hz : List.replicate (8 - k) (0 : UInt8) = 0 :: List.replicate (8 - (k + 1)) 0 := by rw [show 8 - k = (8 - (k + 1)) + 1 by omega]; rfl
        rw [hz] at q
        rw [heap_setCell_same _ _ _ _ _ _ q, bc_set _ _ _ _ _ (unhide Hl).symm]
        have ht : (be64 x).take (k + 1) = (be64 x).take k ++ [(be64 x).getD k 0] := by
          rw [List.take_succ_eq_append_getElem (by rw [be64_length]; omega)]
          simp [be64_length, hlt]
        rw [ht]; simp
      case measure => simp [intOf]; omega
    · have q' : wr.heap[w.heap.size]? = some (.cells (bc (padBytes rest count)) 5 (0, 0)) := by
        rw [q, show k = 8 by omega, padBytes, unhide Hn, unhide Hx, List.take_of_length_le (by rw [be64_length]; omega)]; simp
      have hl : (padBytes rest count).length = 1 + n + 8 := by rw [padBytes_length, unhide Hn]; omega
      have hcv := run_convert_bytes_back (P := Tryd.prog) wr 79 9 5 ⟨w.heap.size, 0, none⟩ (1 + n + 8) (padBytes rest count) Tryd.underlying79 Tryd.underlying5 Tryd.underlying9 (fun j hj => by
        have hadd : (⟨w.heap.size, 0, none⟩ : Addr).add j = ⟨w.heap.size, j, none⟩ := by unfold Addr.add; split <;> simp_all
        rw [hadd, cell_of_row _ _ _ _ _ _ q', bc_at _ _ hj]; simp [hj])
      rw [hl] at hcv
      generalize hp : padBytes rest count = pb at *
      have Hp := hide hp
      have hd : decide ((k : Int) < 8) = false := by simp; omega
      clear q q' hl mk m8 hp
      go_wp2
      go_ret
      exact ⟨by rw [unhide Hp]; rfl, hb⟩
end Go.Proofs.YtjoefhdclghgaaaDoor

namespace Go.Proofs.YtjoefhdclghgaaaDoor
open Go.RowKit
set_option linter.unusedSimpArgs false
set_option linter.unusedVariables false

/-- Words as bytes, the highest byte of each first. -/
def wordBytes (x : BitVec 32) : List UInt8 := [UInt8.ofNat (x.toNat / 2 ^ 24), UInt8.ofNat (x.toNat / 2 ^ 16), UInt8.ofNat (x.toNat / 2 ^ 8), UInt8.ofNat (x.toNat / 2 ^ 0)]
def S8.bytes (s : S8) : List UInt8 := s.list.flatMap wordBytes
/-- The digest that a state ends in. -/
def pEnd (t : St) : List UInt8 := (pThrough t.s (t.rest ++ padBytes t.rest.length t.count)).1.bytes
theorem S8.bytes_length (s : S8) : s.bytes.length = 32 := rfl
theorem wordBytes_length (x : BitVec 32) : (wordBytes x).length = 4 := rfl
theorem wordBytes_at (x : BitVec 32) (j : Nat) (h : j < 4) : (wordBytes x).getD j 0 = UInt8.ofNat (x.toNat / 2 ^ (24 - 8 * j)) := by
  match j, h with
  | 0, _ => rfl
  | 1, _ => rfl
  | 2, _ => rfl
  | 3, _ => rfl
theorem flat_length (l : List (BitVec 32)) : (l.flatMap wordBytes).length = 4 * l.length := by
  induction l with
  | nil => rfl
  | cons x l ih => simp [ih, wordBytes_length]; omega
set_option maxHeartbeats 2000000 in
set_option maxRecDepth 100000 in
theorem end_calls (st : St) (hl : st.rest.length ≤ 140737488355000) (w : World) (tabs : Tabs w) :
    Calls Tryd.prog 49 #[.agg st.cells] w fun e w' => e = .returned (.agg (bc (pEnd st))) ∧ Below w.heap.size w w' := by
  obtain ⟨⟨a, b, c, d, e, f, g, h⟩, rest, count⟩ := st
  simp only [St.cells]
  have hl : rest.length ≤ 140737488355000 := hl
  have hpl := padBytes_length rest.length count
  have hn64 : noughts rest.length < 64 := Nat.mod_lt _ (by decide)
  generalize hpd : padBytes rest.length count = pd at *
  have ea := append_str rest pd
  have n1 : ¬ 9223372036854775807 < rest.length + pd.length := by omega
  have Hpd := hide hpd
  have hpb : pd.length ≤ 72 := by omega
  clear hpd hpl
  go_enter Tryd.func49, Tryd.ntmps49
  go_wp2
  have q0 := (al2 w (.cells (St.mk ⟨a, b, c, d, e, f, g, h⟩ rest count).cells 97) (.cells (bc (List.replicate 32 0)) 23)).1
  have q1 := (al2 w (.cells (St.mk ⟨a, b, c, d, e, f, g, h⟩ rest count).cells 97) (.cells (bc (List.replicate 32 0)) 23)).2
  have hb2 := bel2 w (.cells (St.mk ⟨a, b, c, d, e, f, g, h⟩ rest count).cells 97) (.cells (bc (List.replicate 32 0)) 23)
  have z2 : ((w.alloc (.cells (St.mk ⟨a, b, c, d, e, f, g, h⟩ rest count).cells 97)).alloc (.cells (bc (List.replicate 32 0)) 23)).heap.size = w.heap.size + 1 + 1 := by simp
  generalize hw2 : (w.alloc (.cells (St.mk ⟨a, b, c, d, e, f, g, h⟩ rest count).cells 97)).alloc (.cells (bc (List.replicate 32 0)) 23) = w2 at *
  change Code.wp _ _ _ _ ((w.alloc (.cells (St.mk ⟨a, b, c, d, e, f, g, h⟩ rest count).cells 97)).alloc (.cells (bc (List.replicate 32 0)) 23))
  rw [hw2]
  have c0 : w2.cell? ⟨w.heap.size, 0, none⟩ = some (.int .u32 (a.toNat : Int)) := cell_of_row _ _ _ _ _ _ q0
  have c1 : w2.cell? ⟨w.heap.size, 1, none⟩ = some (.int .u32 (b.toNat : Int)) := cell_of_row _ _ _ _ _ _ q0
  have c2 : w2.cell? ⟨w.heap.size, 2, none⟩ = some (.int .u32 (c.toNat : Int)) := cell_of_row _ _ _ _ _ _ q0
  have c3 : w2.cell? ⟨w.heap.size, 3, none⟩ = some (.int .u32 (d.toNat : Int)) := cell_of_row _ _ _ _ _ _ q0
  have c4 : w2.cell? ⟨w.heap.size, 4, none⟩ = some (.int .u32 (e.toNat : Int)) := cell_of_row _ _ _ _ _ _ q0
  have c5 : w2.cell? ⟨w.heap.size, 5, none⟩ = some (.int .u32 (f.toNat : Int)) := cell_of_row _ _ _ _ _ _ q0
  have c6 : w2.cell? ⟨w.heap.size, 6, none⟩ = some (.int .u32 (g.toNat : Int)) := cell_of_row _ _ _ _ _ _ q0
  have c7 : w2.cell? ⟨w.heap.size, 7, none⟩ = some (.int .u32 (h.toNat : Int)) := cell_of_row _ _ _ _ _ _ q0
  have c8 : w2.cell? ⟨w.heap.size, 8, none⟩ = some (.string (str rest)) := cell_of_row _ _ _ _ _ _ q0
  have c9 : w2.cell? ⟨w.heap.size, 9, none⟩ = some (.int .u64 (count.toNat : Int)) := cell_of_row _ _ _ _ _ _ q0
  generalize hT : pThrough ⟨a, b, c, d, e, f, g, h⟩ (rest ++ pd) = T
  obtain ⟨⟨r0, r1, r2, r3, r4, r5, r6, r7⟩, m⟩ := T
  have tb2 : Tabs w2 := tabs.below' hb2
  have hzB : w.heap.size < w2.heap.size := by omega
  have hpad : ∀ w3, Below w2.heap.size w2 w3 → Calls Tryd.prog 53 #[.int .i64 (rest.length : Int), .int .u64 (count.toNat : Int)] w3 fun e w' => e = .returned (.string (str pd)) ∧ Below w2.heap.size w2 w' ∧ Below w3.heap.size w3 w' := fun w3 h3 => by
    refine (padding_calls rest.length (by omega) count _).mono ?_
    rintro en w' ⟨rfl, hb⟩
    rw [unhide Hpd]; exact ⟨rfl, h3.trans (hb.mono h3.size), hb⟩
  have hth : ∀ w3, Below w2.heap.size w2 w3 → Calls Tryd.prog 51 #[.agg #[.int .u32 (a.toNat : Int), .int .u32 (b.toNat : Int), .int .u32 (c.toNat : Int), .int .u32 (d.toNat : Int), .int .u32 (e.toNat : Int), .int .u32 (f.toNat : Int), .int .u32 (g.toNat : Int), .int .u32 (h.toNat : Int)], .string (str (rest ++ pd))] w3 fun en w' => en = .returned (.tuple #[.agg #[.int .u32 (r0.toNat : Int), .int .u32 (r1.toNat : Int), .int .u32 (r2.toNat : Int), .int .u32 (r3.toNat : Int), .int .u32 (r4.toNat : Int), .int .u32 (r5.toNat : Int), .int .u32 (r6.toNat : Int), .int .u32 (r7.toNat : Int)], .string (str m)]) ∧ Below w2.heap.size w2 w' ∧ Below w3.heap.size w3 w' := fun w3 h3 => by
    refine (through_calls ⟨a, b, c, d, e, f, g, h⟩ (rest ++ pd) (by simp [maxLen]; omega) _ (tb2.below' h3)).mono ?_
    rintro en w' ⟨rfl, hb⟩
    rw [hT]; exact ⟨rfl, h3.trans (hb.mono h3.size), hb⟩
  have HT := hide hT
  have Q1 := hide q1
  have Hpad := hide hpad
  have Hth := hide hth
  have Hz2 := hide z2
  clear hT q0 q1 hw2 tb2 hpad hth z2
  go_cut [3, 4] (fun p s wc => ∃ gg : Nat, p = .pointer (some ⟨gg, 0, none⟩) ∧ s = .string (str m) ∧ wc.heap[gg]? = some (.cells #[.int .u32 (r0.toNat : Int), .int .u32 (r1.toNat : Int), .int .u32 (r2.toNat : Int), .int .u32 (r3.toNat : Int), .int .u32 (r4.toNat : Int), .int .u32 (r5.toNat : Int), .int .u32 (r6.toNat : Int), .int .u32 (r7.toNat : Int)] 95 (0, 0)) ∧ w2.heap.size ≤ gg ∧ Below w2.heap.size w2 wc)
  case first =>
    have HS : Hid (∀ w', Below w2.heap.size w2 w' → w'.cell? ⟨w.heap.size, 0, none⟩ = some (.int .u32 (a.toNat : Int)) ∧ w'.cell? ⟨w.heap.size, 1, none⟩ = some (.int .u32 (b.toNat : Int)) ∧ w'.cell? ⟨w.heap.size, 2, none⟩ = some (.int .u32 (c.toNat : Int)) ∧ w'.cell? ⟨w.heap.size, 3, none⟩ = some (.int .u32 (d.toNat : Int)) ∧ w'.cell? ⟨w.heap.size, 4, none⟩ = some (.int .u32 (e.toNat : Int)) ∧ w'.cell? ⟨w.heap.size, 5, none⟩ = some (.int .u32 (f.toNat : Int)) ∧ w'.cell? ⟨w.heap.size, 6, none⟩ = some (.int .u32 (g.toNat : Int)) ∧ w'.cell? ⟨w.heap.size, 7, none⟩ = some (.int .u32 (h.toNat : Int)) ∧ w'.cell? ⟨w.heap.size, 8, none⟩ = some (.string (str rest)) ∧ w'.cell? ⟨w.heap.size, 9, none⟩ = some (.int .u64 (count.toNat : Int))) := fun w' hw => by
      have hc := fun o => hw.cell (p := ⟨w.heap.size, o, none⟩) hzB
      simp only [hc]
      exact ⟨c0, c1, c2, c3, c4, c5, c6, c7, c8, c9⟩
    go_region_held3 (fun w' => w'.cell? ⟨w.heap.size, 0, none⟩ = some (.int .u32 (a.toNat : Int)) ∧ w'.cell? ⟨w.heap.size, 1, none⟩ = some (.int .u32 (b.toNat : Int)) ∧ w'.cell? ⟨w.heap.size, 2, none⟩ = some (.int .u32 (c.toNat : Int)) ∧ w'.cell? ⟨w.heap.size, 3, none⟩ = some (.int .u32 (d.toNat : Int)) ∧ w'.cell? ⟨w.heap.size, 4, none⟩ = some (.int .u32 (e.toNat : Int)) ∧ w'.cell? ⟨w.heap.size, 5, none⟩ = some (.int .u32 (f.toNat : Int)) ∧ w'.cell? ⟨w.heap.size, 6, none⟩ = some (.int .u32 (g.toNat : Int)) ∧ w'.cell? ⟨w.heap.size, 7, none⟩ = some (.int .u32 (h.toNat : Int)) ∧ w'.cell? ⟨w.heap.size, 8, none⟩ = some (.string (str rest)) ∧ w'.cell? ⟨w.heap.size, 9, none⟩ = some (.int .u64 (count.toNat : Int)))
      (exact unhide HS _ (by (repeat' (first | with_reducible assumption | with_reducible exact Below.refl _ _ | with_reducible refine Below.drew ?_ | with_reducible refine Below.alloc ?_ ?_ _ | with_reducible refine Below.setCell ?_ ?_ _ | with_reducible exact Nat.le_refl _ | with_reducible exact Below.size (by with_reducible assumption) | (show w2.heap.size ≤ _; simp only [World.size_alloc, World.size_drew, World.size_setCell]; omega)))))
      (first
        | (go_at_call 53; refine (unhide Hpad _ ?_).mono ?_; (repeat' (first | with_reducible assumption | with_reducible exact Below.refl _ _ | with_reducible refine Below.drew ?_ | with_reducible refine Below.alloc ?_ ?_ _ | with_reducible refine Below.setCell ?_ ?_ _ | with_reducible exact Nat.le_refl _ | with_reducible exact Below.size (by with_reducible assumption) | (show w2.heap.size ≤ _; simp only [World.size_alloc, World.size_drew, World.size_setCell]; omega))); rintro e w' ⟨rfl, hbb, hbc⟩; obtain ⟨hk, hkf, hz2, hh⟩ := alloc_kept_drew hbc; clear hbc)
        | (go_at_call 53; refine (unhide Hpad _ ?_).mono ?_; (repeat' (first | with_reducible assumption | with_reducible exact Below.refl _ _ | with_reducible refine Below.drew ?_ | with_reducible refine Below.alloc ?_ ?_ _ | with_reducible refine Below.setCell ?_ ?_ _ | with_reducible exact Nat.le_refl _ | with_reducible exact Below.size (by with_reducible assumption) | (show w2.heap.size ≤ _; simp only [World.size_alloc, World.size_drew, World.size_setCell]; omega))); rintro e w' ⟨rfl, hbb, hbc⟩; clear hbc)
        | (go_at_call 51; refine (unhide Hth _ ?_).mono ?_; (repeat' (first | with_reducible assumption | with_reducible exact Below.refl _ _ | with_reducible refine Below.drew ?_ | with_reducible refine Below.alloc ?_ ?_ _ | with_reducible refine Below.setCell ?_ ?_ _ | with_reducible exact Nat.le_refl _ | with_reducible exact Below.size (by with_reducible assumption) | (show w2.heap.size ≤ _; simp only [World.size_alloc, World.size_drew, World.size_setCell]; omega))); rintro e w' ⟨rfl, hbb, hbc⟩; have hk2 : ∀ o : Nat, w'.cell? ⟨w2.heap.size, o, none⟩ = (#[.int .u32 0, .int .u32 0, .int .u32 0, .int .u32 0, .int .u32 0, .int .u32 0, .int .u32 0, .int .u32 0] : Array Value)[o]? := fun o => (hbc.cell (p := ⟨w2.heap.size, o, none⟩) hz2).trans (hk o); have hkf2 : ∀ o : Nat, w'.frozen? ⟨w2.heap.size, o, none⟩ = false := fun o => (hbc.frozen (p := ⟨w2.heap.size, o, none⟩) hz2).trans (hkf o); have hh2 := hide ((hbc.block _ hz2).trans (unhide hh)); clear hk hkf hbc hh)
        | (go_at_call 51; refine (unhide Hth _ ?_).mono ?_; (repeat' (first | with_reducible assumption | with_reducible exact Below.refl _ _ | with_reducible refine Below.drew ?_ | with_reducible refine Below.alloc ?_ ?_ _ | with_reducible refine Below.setCell ?_ ?_ _ | with_reducible exact Nat.le_refl _ | with_reducible exact Below.size (by with_reducible assumption) | (show w2.heap.size ≤ _; simp only [World.size_alloc, World.size_drew, World.size_setCell]; omega))); rintro e w' ⟨rfl, hbb, hbc⟩; obtain ⟨hk, hkf, hz2, hh⟩ := alloc_kept hbc; clear hbc)
        | (go_at_call 51; refine (unhide Hth _ ?_).mono ?_; (repeat' (first | with_reducible assumption | with_reducible exact Below.refl _ _ | with_reducible refine Below.drew ?_ | with_reducible refine Below.alloc ?_ ?_ _ | with_reducible refine Below.setCell ?_ ?_ _ | with_reducible exact Nat.le_refl _ | with_reducible exact Below.size (by with_reducible assumption) | (show w2.heap.size ≤ _; simp only [World.size_alloc, World.size_drew, World.size_setCell]; omega))); rintro e w' ⟨rfl, hbb, hbc⟩; clear hbc))
    · go_wp2
      go_meet
      case rel => exact ⟨_, rfl, rfl, al1 _ _, by (repeat' (first | with_reducible assumption | with_reducible exact Below.refl _ _ | with_reducible refine Below.drew ?_ | with_reducible refine Below.alloc ?_ ?_ _ | with_reducible refine Below.setCell ?_ ?_ _ | with_reducible exact Nat.le_refl _ | with_reducible exact Below.size (by with_reducible assumption) | (show w2.heap.size ≤ _; simp only [World.size_alloc, World.size_drew, World.size_setCell]; omega))), by (repeat' (first | with_reducible assumption | with_reducible exact Below.refl _ _ | with_reducible refine Below.drew ?_ | with_reducible refine Below.alloc ?_ ?_ _ | with_reducible refine Below.setCell ?_ ?_ _ | with_reducible exact Nat.le_refl _ | with_reducible exact Below.size (by with_reducible assumption) | (show w2.heap.size ≤ _; simp only [World.size_alloc, World.size_drew, World.size_setCell]; omega)))⟩
    · go_wp2
      go_meet
      case rel =>
        refine ⟨_, rfl, rfl, ?_, by (repeat' (first | with_reducible assumption | with_reducible exact Below.refl _ _ | with_reducible refine Below.drew ?_ | with_reducible refine Below.alloc ?_ ?_ _ | with_reducible refine Below.setCell ?_ ?_ _ | with_reducible exact Nat.le_refl _ | with_reducible exact Below.size (by with_reducible assumption) | (show w2.heap.size ≤ _; simp only [World.size_alloc, World.size_drew, World.size_setCell]; omega))), by (repeat' (first | with_reducible assumption | with_reducible exact Below.refl _ _ | with_reducible refine Below.drew ?_ | with_reducible refine Below.alloc ?_ ?_ _ | with_reducible refine Below.setCell ?_ ?_ _ | with_reducible exact Nat.le_refl _ | with_reducible exact Below.size (by with_reducible assumption) | (show w2.heap.size ≤ _; simp only [World.size_alloc, World.size_drew, World.size_setCell]; omega)))⟩
        exact set8 _ _ _ _ _ _ _ _ _ _ _ _ _ _ _ _ _ _ _ (unhide hh)
    · go_wp2
      go_meet
      case rel =>
        refine ⟨_, rfl, rfl, ?_, by (repeat' (first | with_reducible assumption | with_reducible exact Below.refl _ _ | with_reducible refine Below.drew ?_ | with_reducible refine Below.alloc ?_ ?_ _ | with_reducible refine Below.setCell ?_ ?_ _ | with_reducible exact Nat.le_refl _ | with_reducible exact Below.size (by with_reducible assumption) | (show w2.heap.size ≤ _; simp only [World.size_alloc, World.size_drew, World.size_setCell]; omega))), by (repeat' (first | with_reducible assumption | with_reducible exact Below.refl _ _ | with_reducible refine Below.drew ?_ | with_reducible refine Below.alloc ?_ ?_ _ | with_reducible refine Below.setCell ?_ ?_ _ | with_reducible exact Nat.le_refl _ | with_reducible exact Below.size (by with_reducible assumption) | (show w2.heap.size ≤ _; simp only [World.size_alloc, World.size_drew, World.size_setCell]; omega)))⟩
        exact set8 _ _ _ _ _ _ _ _ _ _ _ _ _ _ _ _ _ _ _ (unhide hh2)
  case rest =>
    clear Hpad Hth c0 c1 c2 c3 c4 c5 c6 c7 c8 c9
    obtain ⟨gg, rfl, rfl, qg, hgg, hbw⟩ := hcut
    obtain ⟨rl, hrl, hrlen⟩ : ∃ rl : List (BitVec 32), Hid ([r0, r1, r2, r3, r4, r5, r6, r7] = rl) ∧ rl.length = 8 := ⟨_, rfl, rfl⟩
    have hglt : gg < wc.heap.size := by
      by_cases hlt : gg < wc.heap.size
      · exact hlt
      · rw [Array.getElem?_eq_none (by omega)] at qg; cases qg
    have qg' : ∀ o, (wc.alloc o).heap[gg]? = some (.cells (Go.Proofs.YtjoefhdclghgaaaDoor.wc rl) 95 (0, 0)) := fun o => by
      rw [Below.heap_alloc _ _ _ hglt, qg, ← unhide hrl]; rfl
    have hir : (Tryd.prog.info? 95).map (·.size) = some (Go.Proofs.YtjoefhdclghgaaaDoor.wc rl).size := by rw [wc_size, hrlen]; kernel_rfl
    have hd := al1 wc (.cells (bc (List.replicate 32 0)) 23)
    have hres : wc.heap[w.heap.size + 1]? = some (.cells (bc (List.replicate 32 0)) 23 (0, 0)) := Below.at hbw (by have := unhide Hz2; omega) (unhide Q1)
    have hzc : w.heap.size + 1 < wc.heap.size := by have := hbw.size; have := unhide Hz2; omega
    have hres' := (Below.heap_alloc wc (.cells (bc (List.replicate 32 0)) 23) _ hzc).trans hres
    have hbel : Below w.heap.size w (wc.alloc (.cells (bc (List.replicate 32 0)) 23)) := (hb2.trans (hbw.mono (by have := unhide Hz2; omega))).alloc (by omega) _
    have Hd := hide hd
    have Hr := hide hres'
    clear qg hres hd hres' hbw hgg
    go_wp2_with (refine wpList_load_row rfl 95 (.tmp 3) rfl gg rfl 95 _ (0, 0) _ (qg' _) Tryd.underlying95 rfl hir ?_)
    clear qg' hir
    generalize hBd : wc.heap.size = Bd at *
    clear hBd
    go_loopw [25] (fun i wr => ∃ k : Nat, k ≤ 8 ∧ i = .int .i64 k ∧ Below w.heap.size w wr ∧ wr.heap[Bd]? = some (.cells (bc ((rl.take k).flatMap wordBytes ++ List.replicate (32 - 4 * k) 0)) 23 (0, 0)) ∧ wr.heap[w.heap.size + 1]? = some (.cells (bc (List.replicate 32 0)) 23 (0, 0))) (fun i _ => 8 - (intOf i).toNat)
    case atStart => exact ⟨0, by omega, rfl, hbel, unhide Hd, unhide Hr⟩
    case round =>
      clear hbel Hd Hr
      obtain ⟨k, hk, rfl, hb, q, qr⟩ := hrel
      by_cases hlt : k < 8
      · have hidx := index8 rl hrlen k hlt
        generalize hx : rl.getD k 0 = x at hidx
        have Hx := hide hx
        clear hx
        have hdk : decide ((k : Int) < 8) = true := by simp; omega
        generalize hpre : (rl.take k).flatMap wordBytes = pre at q
        have hplen : pre.length = 4 * k := by rw [← hpre, flat_length, List.length_take, hrlen]; omega
        have Hpre := hide hpre
        have Hpl := hide hplen
        clear hpre hplen
        go_wp2
        go_loopw [29] (fun i wr => ∃ j : Nat, j ≤ 4 ∧ i = .int .i64 j ∧ Below w.heap.size w wr ∧ wr.heap[Bd]? = some (.cells (bc (pre ++ (wordBytes x).take j ++ List.replicate (32 - 4 * k - j) 0)) 23 (0, 0)) ∧ wr.heap[w.heap.size + 1]? = some (.cells (bc (List.replicate 32 0)) 23 (0, 0))) (fun i _ => 4 - (intOf i).toNat)
        case atStart => exact ⟨0, by omega, rfl, hb, by rw [q]; simp, qr⟩
        case round =>
          clear hb q qr
          obtain ⟨j, hj, rfl, hb, q, qr⟩ := hrel
          by_cases hjl : j < 4
          · have hl : (pre ++ (wordBytes x).take j).length = 4 * k + j := by rw [List.length_append, unhide Hpl, List.length_take, wordBytes_length]; omega
            have hz : List.replicate (32 - 4 * k - j) (0 : UInt8) = 0 :: List.replicate (32 - 4 * k - (j + 1)) 0 := by rw [show 32 - 4 * k - j = (32 - 4 * k - (j + 1)) + 1 by omega]; rfl
            rw [hz] at q
            have c : wr.cell? ⟨Bd, 4 * k + j, none⟩ = some (.int .u8 (((pre ++ (wordBytes x).take j ++ 0 :: List.replicate (32 - 4 * k - (j + 1)) 0).getD (4 * k + j) 0).toNat : Int)) := by
              rw [cell_of_row _ _ _ _ _ _ q]; exact bc_at _ _ (by rw [List.length_append, hl]; simp)
            generalize hv : (pre ++ (wordBytes x).take j ++ 0 :: List.replicate (32 - 4 * k - (j + 1)) 0).getD (4 * k + j) 0 = v at c
            have fz : wr.frozen? ⟨Bd, 4 * k + j, none⟩ = false := frozen_of_row _ _ _ _ _ q
            have b1 : (0 : Int) ≤ 4 * k + j ∧ (4 : Int) * k + j < 32 := by omega
            have b2 : (4 * (k : Int) + (j : Int)).toNat = 4 * k + j := by omega
            obtain ⟨sh, hsh, esh⟩ : ∃ sh : Nat, Hid (24 - 8 * j = sh) ∧ (24 : Int) - 8 * (j : Int) = (sh : Int) := ⟨_, rfl, by omega⟩
            have hs24 : sh ≤ 24 := by have := unhide hsh; omega
            have Hl := hide hl
            have Hq := hide q
            have hBlt : w.heap.size ≤ Bd := by omega
            clear hz hl hv q
            go_wp2
            go_roundw
            case rel =>
              refine ⟨j + 1, by omega, by go_num, hb.setCell (by simp; omega) _, ?_, ?_⟩
              · rw [byte_mod, ← unhide hsh, ← wordBytes_at x j hjl, heap_setCell_same _ _ _ _ _ _ (unhide Hq), bc_set _ _ _ _ _ (unhide Hl).symm, take_snoc' _ _ 0 (by rw [wordBytes_length]; omega)]
                simp
              · rw [heap_setCell_other _ _ _ _ (by simp; omega)]; exact qr
            case measure => simp [intOf]; omega
          · have hdj : decide ((j : Int) < 4) = false := by simp; omega
            have q' : wr.heap[Bd]? = some (.cells (bc ((rl.take (k + 1)).flatMap wordBytes ++ List.replicate (32 - 4 * (k + 1)) 0)) 23 (0, 0)) := by
              rw [q, show j = 4 by omega, take_snoc' rl k 0 (by omega), List.flatMap_append, unhide Hpre, unhide Hx, List.take_of_length_le (by rw [wordBytes_length]; omega), show 32 - 4 * k - 4 = 32 - 4 * (k + 1) by omega]
              simp
            clear q
            go_wp2
            go_roundw
            case rel => exact ⟨k + 1, by omega, by go_num, hb, q', qr⟩
            case measure => simp [intOf]; omega
      · have hdk : decide ((k : Int) < 8) = false := by simp; omega
        have hend : pEnd ⟨⟨a, b, c, d, e, f, g, h⟩, rest, count⟩ = rl.flatMap wordBytes := by
          simp only [pEnd]; rw [unhide Hpd, unhide HT, ← unhide hrl]; rfl
        have q' : wr.heap[Bd]? = some (.cells (bc (pEnd ⟨⟨a, b, c, d, e, f, g, h⟩, rest, count⟩)) 23 (0, 0)) := by
          rw [q, show k = 8 by omega, hend, List.take_of_length_le (by omega)]; simp
        generalize hE : pEnd ⟨⟨a, b, c, d, e, f, g, h⟩, rest, count⟩ = res at q' hend
        have HE := hide hE
        have hil : (Tryd.prog.info? 23).map (·.size) = some (bc res).size := by rw [bc_size, hend, flat_length, hrlen]; kernel_rfl
        have ho1 := bc_oneCell res
        have hsz : (bc (List.replicate 32 (0 : UInt8))).size = (bc res).size := by rw [bc_size, bc_size, hend, flat_length, hrlen]; rfl
        clear q hend hE
        go_wp2_with (first
          | (refine wpList_load_row rfl 23 (.tmp 5) rfl Bd rfl 23 _ (0, 0) _ q' Tryd.underlying23 rfl hil ?_)
          | (refine wpList_store_row rfl 23 (.tmp 2) (.tmp 45) rfl (w.heap.size + 1) _ rfl rfl 23 _ qr hil hsz ho1 ?_))
        exact bodyPost_ret (results_cell_row rfl _ _ (w.heap.size + 1) _ _ _ _ rfl (setRow_heap _ _ _ _ _ _ qr) Tryd.underlying23 rfl hil) rfl ⟨by rw [unhide HE], below_setRow hb (by simp) _⟩
end Go.Proofs.YtjoefhdclghgaaaDoor

namespace Go.Proofs.YtjoefhdclghgaaaDoor
open Go.RowKit
set_option linter.unusedSimpArgs false
set_option linter.unusedVariables false

/-- The digest of parts. -/
def pSum (parts : List (List UInt8)) : List UInt8 := pEnd (parts.foldl pAdd pBegin)
theorem pEnd_length (t : St) : (pEnd t).length = 32 := S8.bytes_length _
theorem pSum_length (parts : List (List UInt8)) : (pSum parts).length = 32 := pEnd_length _
/-- Strings in a row of memory. -/
def StrsAt (w : World) (a : Option Addr) (parts : List (List UInt8)) : Prop :=
  parts = [] ∨ ∃ b o, a = some ⟨b, o, none⟩ ∧ b < w.heap.size ∧ ∀ j, j < parts.length → w.cell? ⟨b, o + j, none⟩ = some (.string (str (parts.getD j [])))
theorem StrsAt.below {w w' : World} {B : Nat} {a : Option Addr} {parts : List (List UInt8)} (h : StrsAt w a parts) (hb : Below B w w') (hB : w.heap.size ≤ B) : StrsAt w' a parts := by
  rcases h with h | ⟨b, o, rfl, hlt, hc⟩
  · exact .inl h
  · exact .inr ⟨b, o, rfl, Nat.lt_of_lt_of_le hlt hb.size, fun j hj => by rw [hb.cell (p := ⟨b, o + j, none⟩) (by show b < B; omega)]; exact hc j hj⟩
theorem foldl_take_succ {α β : Type} (f : β → α → β) (b : β) (l : List α) (k : Nat) (d : α) (h : k < l.length) : (l.take (k + 1)).foldl f b = f ((l.take k).foldl f b) (l.getD k d) := by
  rw [take_snoc' l k d h, List.foldl_append]; rfl
theorem add_rest (t : St) (l : List UInt8) : (pAdd t l).rest.length < 64 := (pThrough_rest_le _ _).1
theorem fold_rest (parts : List (List UInt8)) : (parts.foldl pAdd pBegin).rest.length < 64 := by
  rcases List.eq_nil_or_concat parts with rfl | ⟨l, x, rfl⟩
  · decide
  · rw [List.concat_eq_append, List.foldl_append]; exact add_rest _ _

set_option maxHeartbeats 1000000 in
set_option maxRecDepth 100000 in
theorem sum_some (parts : List (List UInt8)) (hp : ∀ p ∈ parts, p.length ≤ 70368744177664) (hn : parts.length ≤ 70368744177664) (b o : Nat) (cap : Nat) (w : World) (hlt : b < w.heap.size) (hc : ∀ j, j < parts.length → w.cell? ⟨b, o + j, none⟩ = some (.string (str (parts.getD j [])))) (tabs : Tabs w) :
    Calls Tryd.prog 42 #[.slice (some ⟨b, o, none⟩) parts.length cap] w fun e w' => e = .returned (.agg (bc (pSum parts))) ∧ Below w.heap.size w w' := by
  go_enter Tryd.func42, Tryd.ntmps42
  go_wp2_with fail
  refine (begin_calls _ (tabs.below' ((Below.refl _ _).alloc (Nat.le_refl _) _))).mono ?_
  rintro en w1 ⟨rfl, hb1⟩
  have hb0 : Below w.heap.size w w1 := ((Below.refl _ _).alloc (Nat.le_refl _) _).trans (hb1.mono (by simp))
  have z1 : w.heap.size < w1.heap.size := by have := hb1.size; simp at this; omega
  have q0 : w1.heap[w.heap.size]? = some (.cells (bc (List.replicate 32 0)) 23 (0, 0)) := Below.at hb1 (by simp) (al1 _ _)
  clear hb1
  have hiS : ∀ st : St, (Tryd.prog.info? 97).map (·.size) = some st.cells.size := fun st => by show _ = some 10; kernel_rfl
  have hi0 := hiS pBegin
  have ho0 := St.oneCell pBegin
  have HiS := hide hiS
  clear hiS
  go_wp2_with (refine wpList_store_row rfl 97 (.tmp 3) (.tmp 6) rfl w1.heap.size _ rfl rfl 97 _ (al1 _ _) hi0 rfl ho0 ?_)
  have q1 := setRow_heap _ _ _ pBegin.cells _ _ (al1 w1 (.cells (St.mk ⟨0, 0, 0, 0, 0, 0, 0, 0⟩ [] 0).cells 97))
  have q0' := (setRow_other (w1.alloc (.cells (St.mk ⟨0, 0, 0, 0, 0, 0, 0, 0⟩ [] 0).cells 97)) w1.heap.size w.heap.size pBegin.cells (by omega)).trans ((Below.heap_alloc w1 _ _ z1).trans q0)
  have hb2 := below_setRow (hb0.alloc (by omega) (.cells (St.mk ⟨0, 0, 0, 0, 0, 0, 0, 0⟩ [] 0).cells 97)) (Nat.le_of_lt z1) pBegin.cells
  have HQ1 := hide q1
  have HQ0 := hide q0'
  have HB2 := hide hb2
  clear hb0 q0 q1 q0' hb2 hi0 ho0
  go_loopw [9] (fun i wr => ∃ k : Nat, k ≤ parts.length ∧ i = .int .i64 k ∧ Below w.heap.size w wr ∧ w1.heap.size < wr.heap.size ∧ wr.heap[w1.heap.size]? = some (.cells ((parts.take k).foldl pAdd pBegin).cells 97 (0, 0)) ∧ wr.heap[w.heap.size]? = some (.cells (bc (List.replicate 32 0)) 23 (0, 0))) (fun i _ => parts.length - (intOf i).toNat)
  case atStart => exact ⟨0, by omega, rfl, unhide HB2, by simp, unhide HQ1, unhide HQ0⟩
  case round =>
    clear HB2 HQ1 HQ0
    obtain ⟨k, hk, rfl, hb, hz, q1, q0⟩ := hrel
    generalize hBs : w1.heap.size = Bs at *
    clear hBs
    by_cases hlk : k < parts.length
    · have hdk : decide ((k : Int) < (parts.length : Int)) = true := by simp; omega
      have bk : (0 : Int) ≤ k ∧ (k : Int) < (parts.length : Int) := by omega
      have c : wr.cell? ⟨b, o + k, none⟩ = some (.string (str (parts.getD k []))) := by rw [hb.cell (p := ⟨b, o + k, none⟩) hlt]; exact hc k hlk
      have hfold := foldl_take_succ pAdd pBegin parts k [] hlk
      have hpk : (parts.getD k []).length ≤ 70368744177664 := by
        rw [List.getD_eq_getElem?_getD, List.getElem?_eq_getElem hlk]; exact hp _ (List.getElem_mem _)
      have hrest := fold_rest (parts.take k)
      generalize hpt : parts.getD k [] = pt at c hfold hpk
      generalize hst : (parts.take k).foldl pAdd pBegin = st at q1 hfold hrest
      have tb := tabs.below hb (Nat.le_refl _)
      have hi1 := unhide HiS st
      have Hfold := hide hfold
      clear hpt hst hfold
      go_wp2_with (first
        | (refine wpList_load_row rfl 97 (.tmp 3) rfl Bs rfl 97 _ (0, 0) _ q1 Tryd.underlying97 rfl hi1 ?_)
        | (go_at_call 48; fail))
      refine (add_calls st pt (by omega) _ tb).mono ?_
      rintro en w3 ⟨rfl, hb3⟩
      have q1' := Below.at hb3 hz q1
      have q0' := Below.at hb3 (by omega) q0
      have z3 := hb3.size
      have hi2 := unhide HiS (pAdd st pt)
      have ho2 := St.oneCell (pAdd st pt)
      go_wp2_with (refine wpList_store_row rfl 97 (.tmp 3) (.tmp 15) rfl Bs _ rfl rfl 97 _ q1' hi2 rfl ho2 ?_)
      go_roundw
      case rel =>
        refine ⟨k + 1, by omega, by go_num, below_setRow (hb.trans (hb3.mono (by omega))) (by omega) _, by rw [setRow_size]; omega, ?_, ?_⟩
        · rw [unhide Hfold]; exact setRow_heap _ _ _ _ _ _ q1'
        · rw [setRow_other _ _ _ _ (by omega)]; exact q0'
      case measure => simp [intOf]; omega
    · have hdk : decide ((k : Int) < (parts.length : Int)) = false := by simp; omega
      rw [List.take_of_length_le (by omega)] at q1
      have tb := tabs.below hb (Nat.le_refl _)
      have hrest := fold_rest parts
      generalize hst : (parts).foldl pAdd pBegin = st at q1 hrest
      have Hst := hide hst
      have hi1 := unhide HiS st
      clear hst
      go_wp2_with (refine wpList_load_row rfl 97 (.tmp 3) rfl Bs rfl 97 _ (0, 0) _ q1 Tryd.underlying97 rfl hi1 ?_)
      refine (end_calls st (by omega) _ tb).mono ?_
      rintro en w3 ⟨rfl, hb3⟩
      have q0' := Below.at hb3 (by omega) q0
      have hil : (Tryd.prog.info? 23).map (·.size) = some (bc (pEnd st)).size := by rw [bc_size, pEnd_length]; kernel_rfl
      have ho1 := bc_oneCell (pEnd st)
      have hsz : (bc (List.replicate 32 (0 : UInt8))).size = (bc (pEnd st)).size := by rw [bc_size, bc_size, pEnd_length]; rfl
      go_wp2_with (refine wpList_store_row rfl 23 (.tmp 2) (.tmp 18) rfl w.heap.size _ rfl rfl 23 _ q0' hil hsz ho1 ?_)
      exact bodyPost_ret (results_cell_row rfl _ _ w.heap.size _ _ _ _ rfl (setRow_heap _ _ _ _ _ _ q0') Tryd.underlying23 rfl hil) rfl ⟨by rw [pSum, unhide Hst], below_setRow (hb.trans (hb3.mono (by omega))) (Nat.le_refl _) _⟩

set_option maxHeartbeats 1000000 in
set_option maxRecDepth 100000 in
theorem sum_none (a : Option Addr) (cap : Nat) (w : World) (tabs : Tabs w) :
    Calls Tryd.prog 42 #[.slice a 0 cap] w fun e w' => e = .returned (.agg (bc (pSum []))) ∧ Below w.heap.size w w' := by
  go_enter Tryd.func42, Tryd.ntmps42
  go_wp2_with fail
  refine (begin_calls _ (tabs.below' ((Below.refl _ _).alloc (Nat.le_refl _) _))).mono ?_
  rintro en w1 ⟨rfl, hb1⟩
  have hb0 : Below w.heap.size w w1 := ((Below.refl _ _).alloc (Nat.le_refl _) _).trans (hb1.mono (by simp))
  have z1 : w.heap.size < w1.heap.size := by have := hb1.size; simp at this; omega
  have q0 : w1.heap[w.heap.size]? = some (.cells (bc (List.replicate 32 0)) 23 (0, 0)) := Below.at hb1 (by simp) (al1 _ _)
  clear hb1
  have hiS : ∀ st : St, (Tryd.prog.info? 97).map (·.size) = some st.cells.size := fun st => by show _ = some 10; kernel_rfl
  have hi0 := hiS pBegin
  have ho0 := St.oneCell pBegin
  have HiS := hide hiS
  clear hiS
  go_wp2_with (refine wpList_store_row rfl 97 (.tmp 3) (.tmp 6) rfl w1.heap.size _ rfl rfl 97 _ (al1 _ _) hi0 rfl ho0 ?_)
  have q1 := setRow_heap _ _ _ pBegin.cells _ _ (al1 w1 (.cells (St.mk ⟨0, 0, 0, 0, 0, 0, 0, 0⟩ [] 0).cells 97))
  have q0' := (setRow_other (w1.alloc (.cells (St.mk ⟨0, 0, 0, 0, 0, 0, 0, 0⟩ [] 0).cells 97)) w1.heap.size w.heap.size pBegin.cells (by omega)).trans ((Below.heap_alloc w1 _ _ z1).trans q0)
  have hb2 := below_setRow (hb0.alloc (by omega) (.cells (St.mk ⟨0, 0, 0, 0, 0, 0, 0, 0⟩ [] 0).cells 97)) (Nat.le_of_lt z1) pBegin.cells
  have HQ1 := hide q1
  have HQ0 := hide q0'
  have HB2 := hide hb2
  clear hb0 q0 q1 q0' hb2 hi0 ho0
  go_loopw [9] (fun i wr => ∃ k : Nat, k ≤ 0 ∧ i = .int .i64 k ∧ Below w.heap.size w wr ∧ w1.heap.size < wr.heap.size ∧ wr.heap[w1.heap.size]? = some (.cells ((([] : List (List UInt8)).take k).foldl pAdd pBegin).cells 97 (0, 0)) ∧ wr.heap[w.heap.size]? = some (.cells (bc (List.replicate 32 0)) 23 (0, 0))) (fun i _ => 0 - (intOf i).toNat)
  case atStart => exact ⟨0, by omega, rfl, unhide HB2, by simp, unhide HQ1, unhide HQ0⟩
  case round =>
    clear HB2 HQ1 HQ0
    obtain ⟨k, hk, rfl, hb, hz, q1, q0⟩ := hrel
    generalize hBs : w1.heap.size = Bs at *
    clear hBs
    rw [List.take_nil] at q1
    have hdk : decide ((k : Int) < 0) = false := by simp
    have tb := tabs.below hb (Nat.le_refl _)
    have hrest := fold_rest []
    generalize hst : ([] : List (List UInt8)).foldl pAdd pBegin = st at q1 hrest
    have Hst := hide hst
    have hi1 := unhide HiS st
    clear hst
    go_wp2_with (refine wpList_load_row rfl 97 (.tmp 3) rfl Bs rfl 97 _ (0, 0) _ q1 Tryd.underlying97 rfl hi1 ?_)
    refine (end_calls st (by omega) _ tb).mono ?_
    rintro en w3 ⟨rfl, hb3⟩
    have q0' := Below.at hb3 (by omega) q0
    have hil : (Tryd.prog.info? 23).map (·.size) = some (bc (pEnd st)).size := by rw [bc_size, pEnd_length]; kernel_rfl
    have ho1 := bc_oneCell (pEnd st)
    have hsz : (bc (List.replicate 32 (0 : UInt8))).size = (bc (pEnd st)).size := by rw [bc_size, bc_size, pEnd_length]; rfl
    go_wp2_with (refine wpList_store_row rfl 23 (.tmp 2) (.tmp 18) rfl w.heap.size _ rfl rfl 23 _ q0' hil hsz ho1 ?_)
    exact bodyPost_ret (results_cell_row rfl _ _ w.heap.size _ _ _ _ rfl (setRow_heap _ _ _ _ _ _ q0') Tryd.underlying23 rfl hil) rfl ⟨by rw [pSum, unhide Hst], below_setRow (hb.trans (hb3.mono (by omega))) (Nat.le_refl _) _⟩

theorem sum_calls (parts : List (List UInt8)) (hp : ∀ p ∈ parts, p.length ≤ 70368744177664) (hn : parts.length ≤ 70368744177664) (a : Option Addr) (cap : Nat) (w : World) (hs : StrsAt w a parts) (tabs : Tabs w) :
    Calls Tryd.prog 42 #[.slice a parts.length cap] w fun e w' => e = .returned (.agg (bc (pSum parts))) ∧ Below w.heap.size w w' := by
  rcases hs with rfl | ⟨b, o, rfl, hlt, hc⟩
  · exact sum_none a cap w tabs
  · exact sum_some parts hp hn b o cap w hlt hc tabs
end Go.Proofs.YtjoefhdclghgaaaDoor

namespace Go.Proofs.YtjoefhdclghgaaaDoor
open Go.RowKit
set_option linter.unusedSimpArgs false
set_option linter.unusedVariables false

/-- A domain's and parts' input. -/
def pInput (dom : Nat) (parts : List (List UInt8)) : List UInt8 := pBig dom 1 ++ parts.flatMap pText4
/-- Their digest. -/
def pOf (dom : Nat) (parts : List (List UInt8)) : List UInt8 := pSum [pInput dom parts]
theorem pOf_length (dom : Nat) (parts : List (List UInt8)) : (pOf dom parts).length = 32 := pSum_length _
theorem flatText_len (M : Nat) : ∀ parts : List (List UInt8), (∀ p ∈ parts, p.length ≤ M) → (parts.flatMap pText4).length ≤ (4 + M) * parts.length
  | [], _ => by simp
  | p :: ps, h => by
    have h1 := h p (by simp)
    have h2 := flatText_len M ps fun q hq => h q (by simp [hq])
    rw [List.flatMap_cons, List.length_append, pText4_length, List.length_cons, Nat.mul_succ]; omega
theorem pInput_len (dom : Nat) (parts : List (List UInt8)) (h : ∀ p ∈ parts, p.length ≤ 100000000) (hn : parts.length ≤ 1000) : (pInput dom parts).length ≤ 200000000000 := by
  have := flatText_len 100000000 parts h
  have h2 : (4 + 100000000) * parts.length ≤ (4 + 100000000) * 1000 := Nat.mul_le_mul_left _ hn
  unfold pInput
  rw [List.length_append, pBig_length]; omega
theorem strCells_str (m : List UInt8) : Lib.strCells (str m) = Lib.byteCells m := by simp [Lib.strCells, Lib.byteCells, str]
theorem in_bound (M : Nat) (parts : List (List UInt8)) (k : Nat) (h : ∀ p ∈ parts, p.length ≤ M) (hn : parts.length ≤ 1000) : ((parts.take k).flatMap pText4).length ≤ (4 + M) * 1000 := by
  have := flatText_len M (parts.take k) fun p hp => h p (List.mem_of_mem_take hp)
  refine Nat.le_trans this (Nat.mul_le_mul_left _ ?_)
  rw [List.length_take]; omega
set_option maxHeartbeats 2000000 in
set_option maxRecDepth 100000 in
theorem inputOf_calls (dom : Nat) (hd : dom < 256) (parts : List (List UInt8)) (hp : ∀ p ∈ parts, p.length ≤ 100000000) (hn : parts.length ≤ 1000) (a : Option Addr) (cap : Nat) (w : World) (hs : StrsAt w a parts) :
    Calls Tryd.prog 41 #[.int .u8 (dom : Int), .slice a parts.length cap] w fun e w' => e = .returned (.string (str (pInput dom parts))) ∧ Below w.heap.size w w' := by
  have hb0 : ∀ k, ((parts.take k).flatMap pText4).length ≤ 200000000000 := fun k => Nat.le_trans (in_bound _ parts k hp hn) (by decide)
  have HB0 := hide hb0
  have HP := hide hp
  have HS := hide hs
  obtain ⟨R, hR⟩ : ∃ R, Hid (pInput dom parts = R) := ⟨_, hide rfl⟩
  rw [unhide hR]
  clear hb0 hp hs
  go_enter Tryd.func41, Tryd.ntmps41
  have hbld := Lib.IsBuilderF.of (Lib.fresh_isBuilder 81 5 w)
  go_wp2_with fail
  refine (wbyte_calls dom hd _).mono ?_
  rintro e w1 ⟨rfl, b1⟩
  have hbd1 := isBuilder_below hbld b1
  have hb1 : Below w.heap.size w w1 := ((Below.refl _ w).alloc (Nat.le_refl _) _).trans (b1.mono (by simp))
  go_wp2_with fail
  refine (writeString_calls w.heap.size w.heap.size _ _ _ hbd1 (by rw [str_size, pBig_length]; simp) hb1.size).mono ?_
  rintro e w2 ⟨rfl, h2, b2, k2⟩
  rw [strCells_str, List.nil_append] at h2
  have hb2 := hb1.trans b2
  clear hbld b1 hbd1 hb1 b2 k2
  go_wp2
  go_loopw [7, 13] (fun _ i wr => ∃ k : Nat, k ≤ parts.length ∧ i = .int .i64 (k : Int) ∧ Lib.IsBuilderF 81 5 w.heap.size w.heap.size (Lib.byteCells (pBig dom 1 ++ (parts.take k).flatMap pText4)) wr ∧ Below w.heap.size w wr) (fun _ i _ => parts.length - (intOf i).toNat)
  case atStart => exact ⟨0, by omega, rfl, by rw [List.take_zero, List.flatMap_nil, List.append_nil]; exact Or.inr h2, hb2⟩
  case round =>
    clear h2 hb2
    obtain ⟨k, hk, rfl, hB, hb⟩ := hrel
    have hz := hb.size
    by_cases hlt : k < parts.length
    · have hd1 : decide ((k : Int) < (parts.length : Int)) = true := by simp; omega
      have bk : (0 : Int) ≤ k ∧ (k : Int) < (parts.length : Int) := by omega
      obtain ⟨g, o, rfl, hg, hc⟩ : ∃ b o, a = some ⟨b, o, none⟩ ∧ b < w.heap.size ∧ ∀ j, j < parts.length → w.cell? ⟨b, o + j, none⟩ = some (.string (str (parts.getD j []))) := by
        rcases unhide HS with h | h
        · rw [h] at hlt; simp at hlt
        · exact h
      have c : wr.cell? ⟨g, o + k, none⟩ = some (.string (str (parts.getD k []))) := by rw [hb.cell (p := ⟨g, o + k, none⟩) hg]; exact hc k hlt
      have hpk : (parts.getD k []).length ≤ 100000000 := by
        rw [List.getD_eq_getElem?_getD, List.getElem?_eq_getElem hlt]; exact unhide HP _ (List.getElem_mem _)
      have hnew : pBig dom 1 ++ (parts.take (k + 1)).flatMap pText4 = (pBig dom 1 ++ (parts.take k).flatMap pText4) ++ pText4 (parts.getD k []) := by
        rw [take_snoc' parts k [] hlt, List.flatMap_append]; simp
      have hl0 := unhide HB0 k
      have hpl := pText4_length (parts.getD k [])
      have hbl := pBig_length dom 1
      have hal : (pBig dom 1 ++ (parts.take k).flatMap pText4).length ≤ 200000000001 := by rw [List.length_append]; omega
      generalize pBig dom 1 ++ (parts.take k).flatMap pText4 = acc at *
      generalize parts.getD k [] = pt at *
      have ct := fun w => wtext_calls pt (by omega) w
      generalize pText4 pt = tx at *
      have Hnew := hide hnew
      clear hc hnew hbl hl0
      go_wp2_with fail
      refine (ct _).mono ?_
      rintro e w3 ⟨rfl, b3⟩
      have hB3 := isBuilder_below hB b3
      have hb3 := hb.trans (b3.mono hz)
      go_wp2_with fail
      refine (writeString_calls w.heap.size w.heap.size _ _ _ hB3 (by rw [str_size, Lib.byteCells_length]; omega) hb3.size).mono ?_
      rintro e w4 ⟨rfl, h4, b4, k4⟩
      rw [strCells_str, ← Lib.byteCells_append] at h4
      go_wp2
      go_roundw
      case rel => exact ⟨k + 1, by omega, by go_num, by rw [unhide Hnew]; exact Or.inr h4, hb3.trans b4⟩
      case measure => simp [intOf]; omega
    · have hd1 : decide ((k : Int) < (parts.length : Int)) = false := by simp; omega
      rw [List.take_of_length_le (by omega)] at hB
      have hR' : pBig dom 1 ++ parts.flatMap pText4 = R := unhide hR
      rw [hR'] at hB
      clear hR'
      go_wp2_with fail
      refine (string_calls w.heap.size w.heap.size R _ hB (by omega)).mono ?_
      rintro e w3 ⟨rfl, _, b3, _⟩
      go_wp2
      go_ret
      exact ⟨rfl, hb.trans b3⟩
/-- Strings in a row of memory that was just made. -/
theorem strsAt_one (w : World) (l : List UInt8) (t : TypeId) : StrsAt (w.alloc (.cells #[.string (str l)] t)) (some ⟨w.heap.size, 0, none⟩) [l] := by
  refine .inr ⟨w.heap.size, 0, rfl, by simp, fun j hj => ?_⟩
  have : j = 0 := by simp at hj; omega
  subst this
  go_simp
theorem digInfo (l : List UInt8) (h : l.length = 32) : (Tryd.prog.info? 23).map (·.size) = some (bc l).size := by rw [bc_size, h]; kernel_rfl
theorem zeroSize (l : List UInt8) (h : l.length = 32) : (bc (List.replicate 32 (0 : UInt8))).size = (bc l).size := by rw [bc_size, bc_size, h]; rfl
theorem noteNil_calls (s : ByteArray) (cs : Array Value) (w : World) :
    Calls Tryd.prog 43 #[.pointer none, .string s, .agg cs] w fun e w' => e = .returned (.tuple #[]) ∧ Below w.heap.size w w' := by
  go_enter Tryd.func43, Tryd.ntmps43
  go_wp2
  exact bodyPost_ret (results_none rfl _ _ _) rfl ⟨rfl, (Below.refl _ _).alloc (Nat.le_refl _) _⟩
set_option maxHeartbeats 2000000 in
set_option maxRecDepth 100000 in
theorem ofNil_calls (dom : Nat) (hd : dom < 256) (parts : List (List UInt8)) (hp : ∀ p ∈ parts, p.length ≤ 100000000) (hn : parts.length ≤ 1000) (a : Option Addr) (cap : Nat) (w : World) (hs : StrsAt w a parts) (tabs : Tabs w) :
    Calls Tryd.prog 35 #[.pointer none, .int .u8 (dom : Int), .slice a parts.length cap] w fun e w' => e = .returned (.agg (bc (pOf dom parts))) ∧ Below w.heap.size w w' := by
  have ci := fun w hs => inputOf_calls dom hd parts hp hn a cap w hs
  have hil := pInput_len dom parts hp hn
  have hol := pOf_length dom parts
  unfold pOf at *
  generalize pInput dom parts = I at *
  have cs := fun g w hs tabs => sum_calls [I] (by simp; omega) (by simp) (some ⟨g, 0, none⟩) 1 w hs tabs
  have hi1 := digInfo (pSum [I]) hol
  have hz1 := zeroSize (pSum [I]) hol
  have ho1 := bc_oneCell (pSum [I])
  generalize pSum [I] = D at *
  have Ci := hide ci
  have Cs := hide cs
  have HS := hide hs
  have HT := hide tabs
  clear ci cs hs tabs hp
  go_enter Tryd.func35, Tryd.ntmps35
  go_wp2_with fail
  have hb0 : Below w.heap.size w (w.alloc (.cells (bc (List.replicate 32 0)) 23)) := (Below.refl _ w).alloc (Nat.le_refl _) _
  refine (unhide Ci _ ((unhide HS).below hb0 (Nat.le_refl _))).mono ?_
  rintro e w1 ⟨rfl, b1⟩
  have q0 : w1.heap[w.heap.size]? = some (.cells (bc (List.replicate 32 0)) 23 (0, 0)) := Below.at b1 (by simp) (al1 _ _)
  have hb1 : Below w.heap.size w w1 := hb0.trans (b1.mono (by simp))
  have z1 : w.heap.size < w1.heap.size := by have := b1.size; simp at this; omega
  clear hb0 b1
  go_wp2_with fail
  refine (unhide Cs _ _ (strsAt_one w1 I _) (((unhide HT).below hb1 (Nat.le_refl _)).below' ((Below.refl _ w1).alloc (Nat.le_refl _) _))).mono ?_
  rintro e w2 ⟨rfl, b2⟩
  have q0' := Below.at b2 (by simp; omega) ((Below.heap_alloc w1 (.cells #[.string (str I)] 9) _ z1).trans q0)
  have hb2 : Below w.heap.size w w2 := (hb1.alloc (by omega) _).trans (b2.mono (by simp; omega))
  have z2 : w.heap.size < w2.heap.size := by have := b2.size; simp at this; omega
  clear hb1 b2 q0 Cs Ci
  go_wp2_with (first
    | (refine wpList_store_row rfl 23 (.tmp 8) (.tmp 14) rfl w2.heap.size _ rfl rfl 23 _ (al1 _ _) hi1 hz1 ho1 ?_)
    | (refine wpList_load_row rfl 23 (.tmp 8) rfl w2.heap.size rfl 23 _ (0, 0) _ (setRow_heap _ _ _ (bc D) _ _ (al1 w2 (.cells (bc (List.replicate 32 0)) 23))) Tryd.underlying23 rfl hi1 ?_))
  have q8 := setRow_heap _ _ _ (bc D) _ _ (al1 w2 (.cells (bc (List.replicate 32 0)) 23))
  have q9 := (setRow_other (w2.alloc (.cells (bc (List.replicate 32 0)) 23)) w2.heap.size w.heap.size (bc D) (by omega)).trans ((Below.heap_alloc w2 _ _ z2).trans q0')
  have hb3 := below_setRow (hb2.alloc (by omega) (.cells (bc (List.replicate 32 0)) 23)) (Nat.le_of_lt z2) (bc D)
  have z3 : w2.heap.size < (w2.alloc (.cells (bc (List.replicate 32 0)) 23)).heap.size := by simp
  refine (noteNil_calls _ _ _).mono ?_
  rintro e w4 ⟨rfl, b4⟩
  have q8' := Below.at b4 (by rw [setRow_size, World.size_alloc]; omega) q8
  have q9' := Below.at b4 (by rw [setRow_size, World.size_alloc]; omega) q9
  have hb4 := hb3.trans (b4.mono (by rw [setRow_size, World.size_alloc]; omega))
  clear q8 q9 hb3 b4
  go_wp2_with (first
    | (refine wpList_load_row rfl 23 (.tmp 8) rfl w2.heap.size rfl 23 _ (0, 0) _ q8' Tryd.underlying23 rfl hi1 ?_)
    | (refine wpList_store_row rfl 23 (.tmp 6) (.tmp 19) rfl w.heap.size _ rfl rfl 23 _ q9' hi1 hz1 ho1 ?_))
  exact bodyPost_ret (results_cell_row rfl _ _ w.heap.size _ _ _ _ rfl (setRow_heap _ _ _ _ _ _ q9') Tryd.underlying23 rfl hi1) rfl ⟨rfl, below_setRow hb4 (Nat.le_refl _) _⟩
end Go.Proofs.YtjoefhdclghgaaaDoor

namespace Go.Proofs.YtjoefhdclghgaaaDoor
open Go.RowKit
set_option linter.unusedSimpArgs false
set_option linter.unusedVariables false

/-- The digest of two neighbours. -/
def pR (a b : List UInt8) : List UInt8 := pOf 4 [a, b]
theorem pR_length (a b : List UInt8) : (pR a b).length = 32 := pOf_length _ _
def upAt (ds : List (List UInt8)) (i : Nat) : List UInt8 := pR (ds.getD (2 * i) []) (ds.getD (2 * i + 1) [])
def pUp (ds : List (List UInt8)) : List (List UInt8) := (List.range (ds.length / 2)).map (upAt ds)
theorem upAt_length (ds : List (List UInt8)) (i : Nat) : (upAt ds i).length = 32 := pR_length _ _
theorem pUp_length (ds : List (List UInt8)) : (pUp ds).length = ds.length / 2 := by simp [pUp]
theorem pUp_at (ds : List (List UInt8)) (i : Nat) (h : i < ds.length / 2) : (pUp ds).getD i [] = upAt ds i := by simp [pUp, h]
theorem pUp_32 (ds : List (List UInt8)) : ∀ d ∈ pUp ds, d.length = 32 := fun d hd => by
  obtain ⟨i, _, rfl⟩ := List.mem_map.1 hd
  exact upAt_length _ _
/-- The levels above the leaves. -/
def kLev (ds : List (List UInt8)) : Nat → List (List UInt8)
  | 0 => ds
  | k + 1 => pUp (kLev ds k)
theorem kLev_length (ds : List (List UInt8)) : ∀ k, (kLev ds k).length = ds.length / 2 ^ k
  | 0 => by simp [kLev]
  | k + 1 => by rw [kLev, pUp_length, kLev_length ds k, Nat.pow_succ, Nat.div_div_eq_div_mul]
theorem kLev_32 (ds : List (List UInt8)) (h : ∀ d ∈ ds, d.length = 32) : ∀ k, ∀ d ∈ kLev ds k, d.length = 32
  | 0 => h
  | k + 1 => pUp_32 _
def kRoot (ds : List (List UInt8)) : List UInt8 := (kLev ds 4).getD 0 []
def pathAt (ds : List (List UInt8)) (x i : Nat) : List UInt8 := (kLev ds i).getD ((x / 2 ^ i) ^^^ 1) []
def kPath (ds : List (List UInt8)) (x : Nat) : List (List UInt8) := (List.range 4).map (pathAt ds x)
def kClimb (leaf : List UInt8) (x : Nat) (ds : List (List UInt8)) : Nat → List UInt8
  | 0 => leaf
  | k + 1 => if x / 2 ^ k % 2 = 1 then pR (ds.getD k []) (kClimb leaf x ds k) else pR (kClimb leaf x ds k) (ds.getD k [])
theorem kClimb_length (leaf : List UInt8) (x : Nat) (ds : List (List UInt8)) (hl : leaf.length = 32) : ∀ k, (kClimb leaf x ds k).length = 32
  | 0 => hl
  | k + 1 => by unfold kClimb; split <;> exact pR_length _ _
theorem kxor1 (B : Nat) : B ^^^ 1 = if B % 2 = 1 then B - 1 else B + 1 := by
  have h1 : (B ^^^ 1) / 2 = B / 2 := by rw [Nat.xor_div_two]; simp
  have h2 : (B ^^^ 1) % 2 ^ 1 = (B % 2 ^ 1) ^^^ (1 % 2 ^ 1) := Nat.xor_mod_two_pow
  rw [Nat.pow_one] at h2
  rcases Nat.mod_two_eq_zero_or_one B with h | h
  · rw [h] at h2
    rw [h, if_neg (by decide)]
    have h3 : (B ^^^ 1) % 2 = 1 := h2
    omega
  · rw [h] at h2
    rw [h, if_pos rfl]
    have h3 : (B ^^^ 1) % 2 = 0 := h2
    omega
theorem kPath_at (ds : List (List UInt8)) (x i : Nat) (h : i < 4) : (kPath ds x).getD i [] = pathAt ds x i := by simp [kPath, h]
theorem kPath_length (ds : List (List UInt8)) (x : Nat) : (kPath ds x).length = 4 := by simp [kPath]
theorem pow4 (k : Nat) (h : k ≤ 4) : 16 / 2 ^ k * 2 ^ k = 16 := by
  have : k = 0 ∨ k = 1 ∨ k = 2 ∨ k = 3 ∨ k = 4 := by omega
  rcases this with rfl | rfl | rfl | rfl | rfl <;> rfl
theorem place_lt (x k : Nat) (hx : x < 16) (h : k ≤ 4) : x / 2 ^ k < 16 / 2 ^ k := by
  have : k = 0 ∨ k = 1 ∨ k = 2 ∨ k = 3 ∨ k = 4 := by omega
  rcases this with rfl | rfl | rfl | rfl | rfl <;> omega
theorem side_lt (x k : Nat) (hx : x < 16) (h : k < 4) : (x / 2 ^ k) ^^^ 1 < 16 / 2 ^ k := by
  have h1 := place_lt x k hx (by omega)
  rw [kxor1]
  have : k = 0 ∨ k = 1 ∨ k = 2 ∨ k = 3 := by omega
  rcases this with rfl | rfl | rfl | rfl <;> split <;> omega
theorem kClimb_path (ds : List (List UInt8)) (hd : ds.length = 16) (x : Nat) (hx : x < 16) : ∀ k, k ≤ 4 → kClimb (ds.getD x []) x (kPath ds x) k = (kLev ds k).getD (x / 2 ^ k) []
  | 0, _ => by rw [Nat.pow_zero, Nat.div_one]; rfl
  | k + 1, hk => by
    have ih := kClimb_path ds hd x hx k (by omega)
    have e : x / 2 ^ (k + 1) = x / 2 ^ k / 2 := by rw [Nat.pow_succ, ← Nat.div_div_eq_div_mul]
    have hl := kLev_length ds k
    rw [hd] at hl
    have hp := place_lt x k hx (by omega)
    have hp1 := place_lt x (k + 1) hx hk
    have h2 : 16 / 2 ^ (k + 1) = 16 / 2 ^ k / 2 := by rw [Nat.pow_succ, ← Nat.div_div_eq_div_mul]
    show (if x / 2 ^ k % 2 = 1 then pR ((kPath ds x).getD k []) (kClimb (ds.getD x []) x (kPath ds x) k) else pR (kClimb (ds.getD x []) x (kPath ds x) k) ((kPath ds x).getD k [])) = (pUp (kLev ds k)).getD (x / 2 ^ (k + 1)) []
    rw [kPath_at ds x k (by omega), ih, pUp_at _ _ (by rw [hl]; omega), e]
    unfold pathAt upAt
    rw [kxor1]
    generalize kLev ds k = L
    generalize x / 2 ^ k = B
    by_cases h : B % 2 = 1
    · rw [if_pos h, if_pos h, show 2 * (B / 2) = B - 1 by omega, show B - 1 + 1 = B by omega]
    · rw [if_neg h, if_neg h, show 2 * (B / 2) = B by omega]
/-- A leaf's path climbs to the root. -/
theorem kClimb_root (ds : List (List UInt8)) (hd : ds.length = 16) (x : Nat) (hx : x < 16) : kClimb (ds.getD x []) x (kPath ds x) 4 = kRoot ds := by
  rw [kClimb_path ds hd x hx 4 (Nat.le_refl _)]
  have : x / 2 ^ 4 = 0 := by omega
  rw [this]; rfl
theorem kRoot_length (ds : List (List UInt8)) (hd : ds.length = 16) : (kRoot ds).length = 32 := by
  have h := kLev_length ds 4
  rw [hd] at h
  have h1 : 0 < (kLev ds 4).length := by rw [h]; decide
  unfold kRoot
  rw [List.getD_eq_getElem?_getD, List.getElem?_eq_getElem h1]
  exact pUp_32 _ _ (List.getElem_mem _)
end Go.Proofs.YtjoefhdclghgaaaDoor

namespace Go.Proofs.YtjoefhdclghgaaaDoor
open Go.RowKit
set_option linter.unusedSimpArgs false
set_option linter.unusedVariables false

set_option maxRecDepth 100000 in
theorem wdigest_calls (d : List UInt8) (hd : d.length = 32) (w : World) :
    Calls Tryd.prog 36 #[.agg (bc d)] w fun e w' => e = .returned (.string (str d)) ∧ Below w.heap.size w w' := by
  have hsz : (bc d).size = 32 := by rw [bc_size, hd]
  have q := al1 w (.cells (bc d) 23)
  have hcv := run_convert_bytes_back (P := Tryd.prog) (w.alloc (.cells (bc d) 23)) 79 9 5 ⟨w.heap.size, 0, none⟩ 32 d Tryd.underlying79 Tryd.underlying5 Tryd.underlying9 (fun j hj => by
    have hadd : (⟨w.heap.size, 0, none⟩ : Addr).add j = ⟨w.heap.size, j, none⟩ := by unfold Addr.add; split <;> simp_all
    rw [hadd, cell_of_row _ _ _ _ _ _ q, bc_at _ _ hj]; simp [hj])
  rw [hd] at hcv
  clear q hsz
  go_enter Tryd.func36, Tryd.ntmps36
  go_wp2
  go_ret
  exact ⟨rfl, (Below.refl _ _).alloc (Nat.le_refl _) _⟩
end Go.Proofs.YtjoefhdclghgaaaDoor

namespace Go.Proofs.YtjoefhdclghgaaaDoor
open Go Go.RowKit

theorem wpQuiet_load_row {P : Program} {ops : Array Oper} {C : World → Prop} {Q : Act → Prop} {a : Act} {o : Oper} {rest : List Oper} (hw : Region.wanted o (yielded ops a.tmps) = true) (ty : TypeId) (x : Operand) (ho : o.op = .load ty x)
    (g : Nat) (hx : a.eval x = .pointer (some ⟨g, 0, none⟩)) (t : TypeId) (cs : Array Value) (fr : Nat × Nat) (d : TypeDesc) (hg : ∀ w, C w → w.heap[g]? = some (.cells cs t fr))
    (hu : P.underlying ty = some d) (hd : (match d with | .struct _ | .array _ _ => true | _ => false) = true) (hi : (P.info? ty).map (·.size) = some cs.size)
    (h : wpQuiet P ops C Q rest (a.put o.dst (.agg cs))) : wpQuiet P ops C Q (o :: rest) a := by
  show if _ then _ else _
  rw [if_pos hw]
  refine ⟨.agg cs, fun w hC => ?_, h⟩
  have hl := run_loadVar_row w g t ty cs fr d (hg w hC) hu hd hi
  unfold Oper.quietAt execOp
  simp only [ho, hx, Instr.loadAt, Instr.sureAddr, Sem.run_bind, Sem.run_pure, Result.andThen_ok, hl]
  exact ⟨rfl, rfl⟩
end Go.Proofs.YtjoefhdclghgaaaDoor

namespace Go.Proofs.YtjoefhdclghgaaaDoor
open Go Go.RowKit
section
variable {P : Program} {ops : Array Oper} {md : Region.Mode} {C : World → Prop}

/-- Each of those from c on of the first n but the last is waited for by a later one of them; all behind them wait for the last, or for one behind them. -/
def headB (md : Region.Mode) (ops : Array Oper) (c n : Nat) : Bool :=
  decide (c < n) && ((List.range (n - 1)).all fun i => decide (i < c) || (List.range n).any fun j => decide (i < j) && Region.waitsFor md ops j i) &&
  ((List.range ops.size).all fun t => decide (t < n) || Region.waitsFor md ops t (n - 1) || (List.range t).any fun j => decide (n ≤ j) && Region.waitsFor md ops t j)

theorem last_open {c n : Nat} {listed : Array Bool} (h : headB md ops c n = true) (hn : n ≤ ops.size) (inv : HeadInv md ops n listed) :
    ∀ (d i : Nat), n - i = d → c ≤ i → i < n → listed.getD i true = false → listed.getD (n - 1) true = false := by
  intro d
  induction d using Nat.strongRecOn with
  | _ d ih =>
    intro i hd hci hi hun
    by_cases hl : i = n - 1
    · rw [← hl]; exact hun
    · simp only [headB, Bool.and_eq_true] at h
      have h1 := List.all_eq_true.1 h.1.2 i (List.mem_range.2 (by omega))
      simp only [Bool.or_eq_true, decide_eq_true_eq] at h1
      replace h1 := h1.resolve_left (by omega)
      obtain ⟨j, hj, hj2⟩ := List.any_eq_true.1 h1
      simp only [Bool.and_eq_true, decide_eq_true_eq] at hj2
      have hjn := List.mem_range.1 hj
      obtain ⟨oj, hoj, e, he, hb, hon⟩ := Region.waitsFor_spec hj2.2
      cases hlj : listed.getD j false with
      | true =>
        have h2 := inv.closed j oj hoj hlj e he hb
        rw [hon, getD_both hun] at h2
        cases h2
      | false =>
        exact ih (n - j) (by omega) j rfl (by omega) hjn (getD_in (by rw [inv.size]; omega) hlj)
theorem tail_open {c n : Nat} {listed : Array Bool} (h : headB md ops c n = true) (hn : n ≤ ops.size) (inv : HeadInv md ops n listed) (i : Nat) (hci : c ≤ i) (hi : i < n) (hun : listed.getD i true = false) (t : Nat) (ht : n ≤ t) :
    t ∉ Region.ready md ops listed := by
  intro hr
  have hlast := last_open h hn inv _ i rfl hci hi hun
  obtain ⟨_, ot, hot, hall⟩ := mem_ready.1 hr
  have htlt : t < ops.size := (Array.getElem?_eq_some_iff.1 hot).1
  simp only [headB, Bool.and_eq_true] at h
  have h1 := List.all_eq_true.1 h.2 t (List.mem_range.2 htlt)
  simp only [Bool.or_eq_true, decide_eq_true_eq] at h1
  rcases h1 with (h1 | h1) | h1
  · omega
  · obtain ⟨o', ho', e, he, hb, hon⟩ := Region.waitsFor_spec h1
    have : o' = ot := Option.some.inj (ho'.symm.trans hot)
    subst this
    have h2 := hall e he hb
    rw [hon, getD_both hlast] at h2
    cases h2
  · obtain ⟨j, hj, hj2⟩ := List.any_eq_true.1 h1
    simp only [Bool.and_eq_true, decide_eq_true_eq] at hj2
    obtain ⟨o', ho', e, he, hb, hon⟩ := Region.waitsFor_spec hj2.2
    have : o' = ot := Option.some.inj (ho'.symm.trans hot)
    subst this
    have h2 := hall e he hb
    have hjt := List.mem_range.1 hj
    rw [hon, getD_both (inv.tail j hj2.1 (by omega))] at h2
    cases h2
theorem headQ_first2 {c n i : Nat} {oi : Oper} {v : Value} {L : Array Bool → Act → Prop} (hi : ops[i]? = some oi) (hsel : ∀ (j : Nat) (o : Oper) cs b, ops[j]? = some o → o.op ≠ .select cs b)
    (hB : headB md ops c n = true) (hn : n ≤ ops.size) (hci : c ≤ i) (hin : i < n)
    (hend : ∀ listed a, L listed a → ∀ j ∈ Region.ready md ops listed, n ≤ j) (f : Nat) :
    ∀ (listed : Array Bool) (a : Act), HeadInv md ops n listed →
      (∀ j oj, ops[j]? = some oj → j ≠ i → listed.getD j true = false → (∀ e ∈ oj.after, Region.binds md e = true → e.on ≠ i) → oi.apart ops oj = true) →
      i ∈ Region.ready md ops listed → YieldsIn P ops C oi v a →
      headQ P md ops C n L f (listed.setIfInBounds i true) (a.put oi.dst v) → headQ P md ops C n L (f + 1) listed a := by
  induction f with
  | zero =>
    intro listed a inv _ hr hy H
    refine ⟨fun h => (by rw [h] at hr; cases hr), fun j hj => ?_⟩
    have hjn : j < n := Nat.lt_of_not_le fun h => tail_open hB hn inv i hci hin (mem_ready.1 hr).1 j h hj
    refine ⟨hjn, ?_⟩
    by_cases e : j = i
    · subst e; exact hy.qOp hi H
    · exact absurd (hend _ _ H j (ready_mono hj e)) (by omega)
  | succ f ih =>
    intro listed a inv apart hr hy H
    refine ⟨fun h => (by rw [h] at hr; cases hr), fun j hj => ?_⟩
    have hjn : j < n := Nat.lt_of_not_le fun h => tail_open hB hn inv i hci hin (mem_ready.1 hr).1 j h hj
    refine ⟨hjn, ?_⟩
    by_cases e : j = i
    · subst e; exact hy.qOp hi H
    · obtain ⟨hun, oj, hoj, hall⟩ := mem_ready.1 hj
      have free : ∀ e ∈ oj.after, Region.binds md e = true → e.on ≠ i := fun e he hb heq => by
        have h1 := hall e he hb
        rw [heq, getD_both (mem_ready.1 hr).1] at h1
        cases h1
      have step := qOp_put hoj (apart j oj hoj e hun free) (fun cs b => hsel i oi cs b hi) (fun cs b => hsel j oj cs b hoj) hy (H.2 j (ready_mono hj e)).2
      refine qOp_mono (fun a' h3 => ih (listed.setIfInBounds j true) a' (inv.set hj hjn) (fun k ok hk hki hk2 hno => apart k ok hk hki ?_ hno) (ready_mono hr (Ne.symm e)) h3.1 ?_) step
      · by_cases hjk : j = k
        · subst hjk; exact hun
        · rw [getD_set_ne true hjk] at hk2; exact hk2
      · rw [Array.setIfInBounds_comm _ _ e]; exact h3.2

/-- The first so many taken in the text's order: each may come up, and is free; then only what lies behind them may. -/
def lexFirst (md : Region.Mode) (ops : Array Oper) (n : Nat) : Nat → Nat → Array Bool → Bool
  | 0, _, listed => (Region.ready md ops listed).all fun j => decide (n ≤ j)
  | f + 1, k, listed => (Region.ready md ops listed).contains k && Region.free md ops listed k && lexFirst md ops n f (k + 1) (listed.setIfInBounds k true)
def marks : Nat → Nat → Array Bool → Array Bool
  | 0, _, listed => listed
  | f + 1, k, listed => marks f (k + 1) (listed.setIfInBounds k true)
theorem headQ_lex2 {c n : Nat} {R : Act → Prop} (hsel : Region.noSelect ops = true) (hB : headB md ops c n = true) (hn : n ≤ ops.size) :
    ∀ (l : List Oper) (k : Nat) (listed : Array Bool) (a : Act), c ≤ k → (∀ j, j < l.length → l[j]? = ops[k + j]?) → k + l.length = n → HeadInv md ops n listed →
    lexFirst md ops n l.length k listed = true → wpQuiet P ops C R l a →
    headQ P md ops C n (fun listed' a' => (listed' = marks l.length k listed ∧ ∀ j ∈ Region.ready md ops listed', n ≤ j) ∧ R a') l.length listed a
  | [], k, listed, a, _, _, hk, _, hL, h => by
    refine ⟨⟨rfl, fun j hj => ?_⟩, h⟩
    have := List.all_eq_true.1 hL j hj
    simpa using this
  | o :: l, k, listed, a, hck, hl, hk, inv, hL, h => by
    have h0 : ops[k]? = some o := by simpa using (hl 0 (by simp)).symm
    simp only [List.length_cons, lexFirst, Bool.and_eq_true] at hL
    obtain ⟨⟨hr, hf⟩, hL'⟩ := hL
    have hkn : k < n := by simp only [List.length_cons] at hk; omega
    have hr' : k ∈ Region.ready md ops listed := by simpa using hr
    obtain ⟨v, hy, hK⟩ := yieldsIn_of_qOp (C := C) (K := wpQuiet P ops C R l) h0 (by unfold qOp; simp only [h0]; exact h)
    refine headQ_first2 h0 (Region.noSelect_spec hsel) hB hn hck hkn (fun _ _ hL => hL.1.2) l.length listed a inv (Region.free_spec h0 hf) hr' hy ?_
    exact headQ_lex2 hsel hB hn l (k + 1) _ _ (by omega) (fun j hj => by have := hl (j + 1) (by simp; omega); simpa [Nat.add_assoc, Nat.add_comm 1 j] using this) (by simp only [List.length_cons] at hk; omega) (inv.set hr' hkn) hL' hK
/-- The first so many may come up one behind the other. -/
def lexPre (md : Region.Mode) (ops : Array Oper) : Nat → Nat → Array Bool → Bool
  | 0, _, _ => true
  | f + 1, k, listed => (Region.ready md ops listed).contains k && lexPre md ops f (k + 1) (listed.setIfInBounds k true)
theorem pre_inv {n : Nat} : ∀ (f k : Nat) (listed : Array Bool), k + f ≤ n → HeadInv md ops n listed → lexPre md ops f k listed = true → HeadInv md ops n (marks f k listed)
  | 0, _, _, _, inv, _ => inv
  | f + 1, k, listed, hk, inv, h => by
    simp only [lexPre, Bool.and_eq_true] at h
    exact pre_inv f (k + 1) _ (by omega) (inv.set (by simpa using h.1) (by omega)) h.2
end
/-- The check of a region whose first c have come up, and whose next go first. -/
def firstB (ops : Array Oper) (c n : Nat) : Bool :=
  Region.noSelect ops && decide (n ≤ ops.size) && headB .any ops c n && lexPre .any ops c 0 (Array.replicate ops.size false) && lexFirst .any ops n (n - c) c (marks c 0 (Array.replicate ops.size false))
theorem marks_add : ∀ (f g k : Nat) (listed : Array Bool), marks g (k + f) (marks f k listed) = marks (f + g) k listed
  | 0, g, k, listed => by simp [marks]
  | f + 1, g, k, listed => by
    rw [show f + 1 + g = (f + g) + 1 by omega]
    show marks g (k + (f + 1)) (marks f (k + 1) _) = marks (f + g) (k + 1) _
    rw [← marks_add f g (k + 1), show k + (f + 1) = k + 1 + f by omega]
/-- OPERATIONS IN WHATEVER ORDER: the first c have come up; those up to n quiet, walked in the text's order; what is left in whatever order, from whatever world in which all that lay there lies as it lay. -/
theorem wpAny_below_head {P : Program} {Q : Exit → Act → World → Prop} {a : Act} {w : World} {l : List Oper} (c n : Nat) (hB : firstB l.toArray c n = true)
    (h : wpQuiet P l.toArray (fun w' => ∃ p : Regrown, w' = Sort.grow (redrawn w p.d) p.os) (fun a' => ∀ w', Below w.heap.size w w' → wpAny P .any l.toArray Q (l.length - n) (marks n 0 (Array.replicate l.length false)) a' w') ((l.take n).drop c) a) :
    wpAny P .any l.toArray Q (l.length - c) (marks c 0 (Array.replicate l.length false)) a w := by
  simp only [firstB, Bool.and_eq_true, decide_eq_true_eq] at hB
  obtain ⟨⟨⟨⟨hsel, hn⟩, hh⟩, hpre⟩, hlex⟩ := hB
  have hcn : c < n := by simp only [headB, Bool.and_eq_true, decide_eq_true_eq] at hh; exact hh.1.1
  have hn' : n ≤ l.length := by simpa using hn
  have htl : ((l.take n).drop c).length = n - c := by simp; omega
  have inv0 : HeadInv .any l.toArray n (Array.replicate l.toArray.size false) :=
    ⟨by simp, fun j oj _ hl => (by rw [getD_replicate_false] at hl; cases hl), fun t _ ht => getD_in (by simpa using ht) (getD_replicate_false _ _)⟩
  have inv := pre_inv c 0 _ (by omega) inv0 hpre
  have H := headQ_lex2 (C := fun w' => ∃ p : Regrown, w' = Sort.grow (redrawn w p.d) p.os) (md := .any) hsel hh hn ((l.take n).drop c) c _ a (Nat.le_refl _) (fun j hj => by
    have hj' : c + j < n := by rw [htl] at hj; omega
    simp [List.getElem?_drop, hj']) (by rw [htl]; omega) inv (by rw [htl]; exact hlex) h
  have fin := any_of_headQ (Q := Q) (g := l.toArray.size - n) (fun listed a' w' hw' hL => by
    obtain ⟨⟨rfl, _⟩, hR⟩ := hL
    obtain ⟨p, rfl⟩ := hw'
    have := hR _ (below_regrown w p.d p.os)
    have e := marks_add c (n - c) 0 (Array.replicate l.toArray.size false)
    rw [Nat.zero_add, show c + (n - c) = n by omega] at e
    rw [htl, e]
    simpa using this) _ _ _ w ⟨⟨w.drawn, #[]⟩, by rw [Sort.grow_empty]; rfl⟩ H
  rw [htl, show n - c + (l.toArray.size - n) = l.length - c by simp; omega] at fin
  simpa using fin
theorem wpQuiet_mono {P : Program} {ops : Array Oper} {C : World → Prop} {R R' : Act → Prop} (hR : ∀ a, R a → R' a) : ∀ (l : List Oper) (a : Act), wpQuiet P ops C R l a → wpQuiet P ops C R' l a
  | [], a, h => hR a h
  | o :: l, a, h => by
    unfold wpQuiet at h ⊢
    split
    · rename_i hw
      rw [if_pos hw] at h
      exact Oper.quiet_mono (fun a' h' => wpQuiet_mono hR l a' h') h
    · rename_i hw
      rw [if_neg hw] at h
      exact wpQuiet_mono hR l _ h
/-- A REGION THAT DRAWS: the first n operations quiet, walked in the text's order; what is left in whatever order, from whatever world in which all that lay there lies as it lay. -/
theorem wp_region_below_head {P : Program} {id : Nat} {Q : Exit → Act → World → Prop} {a : Act} {w : World} {l : List Oper} (n : Nat) (hm : P.follows .mixedOrders = true) (hB : firstB l.toArray 0 n = true)
    (h : wpQuiet P l.toArray (fun w' => ∃ p : Regrown, w' = Sort.grow (redrawn w p.d) p.os) (fun a' => ∀ w', Below w.heap.size w w' → wpAny P .any l.toArray Q (l.length - n) (marks n 0 (Array.replicate l.length false)) a' w') (l.take n) a) :
    (Code.region id l.toArray true).wp P Q a w := by
  refine wp_region_any hm ?_
  have e : ∀ w', Below { w with drawn := w.drawn + 1 }.heap.size { w with drawn := w.drawn + 1 } w' → Below w.heap.size w w' := fun w' hb => ⟨hb.os, hb.tape, hb.output, hb.size, hb.block⟩
  have hq : wpQuiet P l.toArray (fun w' => ∃ p : Regrown, w' = Sort.grow (redrawn { w with drawn := w.drawn + 1 } p.d) p.os) (fun a' => ∀ w', Below { w with drawn := w.drawn + 1 }.heap.size { w with drawn := w.drawn + 1 } w' → wpAny P .any l.toArray Q (l.length - n) (marks n 0 (Array.replicate l.length false)) a' w') (l.take n) a :=
    wpQuiet_mono (fun a' H w' hb => H w' (e w' hb)) (l.take n) a h
  have := wpAny_below_head (P := P) (Q := Q) (a := a) (w := { w with drawn := w.drawn + 1 }) 0 n hB hq
  simpa [marks] using this
/-- The last operations of a region, whose order is forced. -/
theorem wpAny_rest {P : Program} {md : Region.Mode} {l : List Oper} {Q : Exit → Act → World → Prop} {listed : Array Bool} {a : Act} {w : World} (k : Nat)
    (hB : Region.seqB md l.toArray (l.length - k) k listed = true) (h : wpList P l.toArray Q (l.drop k) a w) : wpAny P md l.toArray Q (l.length - k) listed a w := by
  have := wpAny_of_seq (P := P) (md := md) (ops := l.toArray) (Q' := Q) (l.drop k) k listed a w (fun j => by simp [List.getElem?_drop]) (by simpa using hB) h
  simpa using this
/-- The last operation of a region. -/
theorem wpAny_last {P : Program} {md : Region.Mode} {l : List Oper} {Q : Exit → Act → World → Prop} {listed : Array Bool} {a : Act} {w : World} (k : Nat) (o : Oper) (ho : l[k]? = some o) (hk : l.length = k + 1)
    (hB : Region.seqB md l.toArray 1 k listed = true) (h : wpList P l.toArray Q [o] a w) : wpAny P md l.toArray Q 1 listed a w := by
  refine wpAny_of_seq [o] k listed a w (fun j => ?_) hB h
  cases j with
  | zero => simpa using ho.symm
  | succ j => simp; omega
end Go.Proofs.YtjoefhdclghgaaaDoor

namespace Go.Proofs.YtjoefhdclghgaaaDoor
open Go.RowKit
set_option linter.unusedSimpArgs false
set_option linter.unusedVariables false

theorem strsAt_pair (w : World) (l0 l1 : List UInt8) (t : TypeId) : StrsAt (w.alloc (.cells #[.string (str l0), .string (str l1)] t)) (some ⟨w.heap.size, 0, none⟩) [l0, l1] := by
  refine .inr ⟨w.heap.size, 0, rfl, by simp, fun j hj => ?_⟩
  match j, hj with
  | 0, _ => go_simp
  | 1, _ => go_simp
  | j + 2, hj => simp at hj; omega
set_option maxHeartbeats 2000000 in
set_option maxRecDepth 100000 in
theorem twoD_calls (dom : Nat) (hdom : dom < 256) (a b : List UInt8) (ha : a.length = 32) (hb : b.length = 32) (w : World) (tabs : Tabs w) :
    Calls Tryd.prog 32 #[.pointer none, .int .u8 (dom : Int), .agg (bc a), .agg (bc b)] w fun e w' => e = .returned (.agg (bc (pOf dom [a, b]))) ∧ Below w.heap.size w w' := by
  have co := fun g w hs tabs => ofNil_calls dom hdom [a, b] (by simp; omega) (by simp) (some ⟨g, 0, none⟩) 2 w hs tabs
  have hia := digInfo a ha
  have hib := digInfo b hb
  have hi1 := digInfo (pOf dom [a, b]) (pOf_length dom [a, b])
  have hz1 := zeroSize (pOf dom [a, b]) (pOf_length dom [a, b])
  have ho1 := bc_oneCell (pOf dom [a, b])
  have ca := fun w => wdigest_calls a ha w
  have cb := fun w => wdigest_calls b hb w
  generalize pOf dom [a, b] = D at *
  have A3 := hide (al3 w (.cells (bc a) 23) (.cells (bc b) 23) (.cells (bc (List.replicate 32 0)) 23))
  have B3 := hide (bel3 w (.cells (bc a) 23) (.cells (bc b) 23) (.cells (bc (List.replicate 32 0)) 23))
  have S3 : Hid ((((w.alloc (.cells (bc a) 23)).alloc (.cells (bc b) 23)).alloc (.cells (bc (List.replicate 32 0)) 23)).heap.size = w.heap.size + 1 + 1 + 1) := hide (by simp)
  generalize hX : ((w.alloc (.cells (bc a) 23)).alloc (.cells (bc b) 23)).alloc (.cells (bc (List.replicate 32 0)) 23) = X at *
  have HX := hide hX
  have CO := hide co
  have HT := hide tabs
  have kA : Hid (∀ dd os, Calls Tryd.prog 36 #[.agg (bc a)] (Sort.grow (redrawn X.drew dd) os) fun e w'' => e = .returned (.string (str a)) ∧ ∃ p : Regrown, w'' = Sort.grow (redrawn X.drew p.d) p.os) := fun dd os => Calls.regrown_of (ca _)
  have kB : Hid (∀ dd os, Calls Tryd.prog 36 #[.agg (bc b)] (Sort.grow (redrawn X.drew dd) os) fun e w'' => e = .returned (.string (str b)) ∧ ∃ p : Regrown, w'' = Sort.grow (redrawn X.drew p.d) p.os) := fun dd os => Calls.regrown_of (cb _)
  have dX : Below X.heap.size X X.drew := ⟨rfl, rfl, rfl, Nat.le_refl _, fun _ _ => rfl⟩
  have s3 := unhide S3
  have R0 : Hid (∀ w', (∃ p : Regrown, w' = Sort.grow (redrawn X.drew p.d) p.os) → w'.heap[w.heap.size]? = some (.cells (bc a) 23 (0, 0))) := fun w' ⟨p, hp⟩ => by
    rw [hp]; exact Below.at (below_regrown X.drew p.d p.os) (by show _ < X.heap.size; omega) (unhide A3).1
  have R1 : Hid (∀ w', (∃ p : Regrown, w' = Sort.grow (redrawn X.drew p.d) p.os) → w'.heap[w.heap.size + 1]? = some (.cells (bc b) 23 (0, 0))) := fun w' ⟨p, hp⟩ => by
    rw [hp]; exact Below.at (below_regrown X.drew p.d p.os) (by show _ < X.heap.size; omega) (unhide A3).2.1
  clear co ca cb tabs s3 dX hX
  go_enter Tryd.func32, Tryd.ntmps32
  go_wp2_with fail
  change Code.wp _ _ _ _ (((w.alloc (.cells (bc a) 23)).alloc (.cells (bc b) 23)).alloc (.cells (bc (List.replicate 32 0)) 23))
  rw [unhide HX]
  refine wp_region_any mixed ?_
  change wpAny _ _ _ _ _ _ _ X.drew
  refine wpAny_take (i := 0) rfl (by kernel_rfl) (by kernel_rfl) (by kernel_rfl) (fun _ _ _ h => h) (.inl ⟨rfl, fun _ => rfl⟩) ?_
  refine wpAny_take (i := 1) rfl (by kernel_rfl) (by kernel_rfl) (by kernel_rfl) (fun _ _ _ h => h) (.inl ⟨rfl, fun _ => rfl⟩) ?_
  refine wpAny_below_head 2 6 (by kernel_rfl) ?_
  simp only [List.take_succ_cons, List.take_zero, List.drop_succ_cons, List.drop_zero]
  refine wpQuiet_load_row rfl 23 (.tmp 6) rfl w.heap.size rfl 23 _ (0, 0) _ (unhide R0) Tryd.underlying23 rfl hia ?_
  quiet_step (exact unhide kA _ _)
  refine wpQuiet_load_row rfl 23 (.tmp 7) rfl (w.heap.size + 1) rfl 23 _ (0, 0) _ (unhide R1) Tryd.underlying23 rfl hib ?_
  quiet_step (exact unhide kB _ _)
  refine wpQuiet_nil ?_
  intro w2 hb2
  have hb2' : Below X.heap.size X w2 := ⟨hb2.os, hb2.tape, hb2.output, hb2.size, hb2.block⟩
  have s3 := unhide S3
  have q2 := Below.at hb2' (by omega) (unhide A3).2.2
  have hbw : Below w.heap.size w w2 := (unhide B3).trans (hb2'.mono (by omega))
  have z2 : w.heap.size + 1 + 1 < w2.heap.size := by have := hb2'.size; omega
  have HB := hide hbw
  have Q2 := hide q2
  have Z2 := hide z2
  clear hb2 hb2' s3 q2 hbw z2
  refine wpAny_rest 6 (by kernel_rfl) ?_
  simp only [List.drop_succ_cons, List.drop_zero]
  go_wp2_with fail
  refine (unhide CO _ _ (strsAt_pair w2 a b _) (((unhide HT).below (unhide HB) (Nat.le_refl _)).below' ((Below.refl _ w2).alloc (Nat.le_refl _) _))).mono ?_
  rintro e w3 ⟨rfl, b3⟩
  have q3 := Below.at b3 (by have := unhide Z2; simp; omega) ((Below.heap_alloc w2 (.cells #[.string (str a), .string (str b)] 9) _ (unhide Z2)).trans (unhide Q2))
  have hb3 : Below w.heap.size w w3 := ((unhide HB).alloc (by have := unhide Z2; omega) _).trans (b3.mono (by have := unhide Z2; simp; omega))
  have Q3 := hide q3
  have HB3 := hide hb3
  clear b3 q3 hb3
  go_wp2_with (refine wpList_store_row rfl 23 (.tmp 8) (.tmp 16) rfl (w.heap.size + 1 + 1) _ rfl rfl 23 _ (unhide Q3) hi1 hz1 ho1 ?_)
  exact bodyPost_ret (results_cell_row rfl _ _ (w.heap.size + 1 + 1) _ _ _ _ rfl (setRow_heap _ _ _ _ _ _ (unhide Q3)) Tryd.underlying23 rfl hi1) rfl ⟨rfl, below_setRow (unhide HB3) (by omega) _⟩
end Go.Proofs.YtjoefhdclghgaaaDoor
