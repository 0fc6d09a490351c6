/-
  STATES, PADDING, SUMS AS LISTS OF BYTES. Plain definitions and lemmas.
-/
/-
  WHAT sha.through RETURNS.
-/
/-
  WHAT sha's Begin AND Add RETURN.
-/
/-
  BYTES AS CELLS OF MEMORY; numbers of eight bytes, the highest first. Plain definitions and lemmas.
-/
/-
  WHAT sha.padding RETURNS.
-/
/-
  WHAT sha's End RETURNS.
-/
/-
  WHAT sha.Sum RETURNS.
-/
/-
  WHAT digest's inputOf RETURNS; what Of returns where there is no log.
-/
/-
  A LOG IN MEMORY: keys of its two maps; what is kept beside it.
-/
/-
  THE DOCUMENT's LOG IN MEMORY (layer 4): a list of inputs, and by each digest the list of its inputs.
-/
import Derived.Test.YtaclnlmmkcjjeaaDoorJ1
import Derived.Test.YtaclnlmmkcjjeaaDoorJ0
import Derived.Lib.Strings
import Derived.Deep.RegionHeld3
import Derived.Deep.DeepCutAuto
import Derived.Maps.OwnSet
import Derived.DeepKeys4
import Derived.WideKeyEntry
import Derived.Maps.AppendAt
namespace Go.Proofs.YtaclnlmmkcjjeaaDoor
open Go.RowKit
set_option linter.unusedSimpArgs false

/-- The words behind n whole blocks at most, and what is left. -/
def pThroughN : Nat → S8 → List UInt8 → S8 × List UInt8
  | 0, s, l => (s, l)
  | n + 1, s, l => if 64 ≤ l.length then pThroughN n (pBlock s (l.take 64)) (l.drop 64) else (s, l)
def pThrough (s : S8) (l : List UInt8) : S8 × List UInt8 := pThroughN (l.length / 64) s l
theorem pThrough_step (s : S8) (l : List UInt8) (h : 64 ≤ l.length) : pThrough s l = pThrough (pBlock s (l.take 64)) (l.drop 64) := by
  unfold pThrough
  rw [show l.length / 64 = (l.drop 64).length / 64 + 1 by simp; omega]
  simp [pThroughN, h]
theorem pThrough_end (s : S8) (l : List UInt8) (h : l.length < 64) : pThrough s l = (s, l) := by
  unfold pThrough
  rw [Nat.div_eq_of_lt h]; rfl

/-- A sum of two words of 64 bits, under a name of its own. -/
def add64 (x y : BitVec 64) : BitVec 64 := x + y
theorem a64_wrap (x y : BitVec 64) : IntKind.u64.wrap ((x.toNat : Int) + (y.toNat : Int)) = ((add64 x y).toNat : Int) := by
  rw [IntKind.wrap_u64, add64, BitVec.toNat_add]; omega
/-- A state: words, rest, count. -/
structure St where
  (s : S8) (rest : List UInt8) (count : BitVec 64)
def St.cells (t : St) : Array Value := #[.int .u32 (t.s.a.toNat : Int), .int .u32 (t.s.b.toNat : Int), .int .u32 (t.s.c.toNat : Int), .int .u32 (t.s.d.toNat : Int), .int .u32 (t.s.e.toNat : Int), .int .u32 (t.s.f.toNat : Int), .int .u32 (t.s.g.toNat : Int), .int .u32 (t.s.h.toNat : Int), .string (str t.rest), .int .u64 (t.count.toNat : Int)]
theorem St.oneCell (t : St) : t.cells.all (·.oneCell') = true := by simp [St.cells, Value.oneCell']
def pBegin : St := ⟨⟨1779033703, 3144134277, 1013904242, 2773480762, 1359893119, 2600822924, 528734635, 1541459225⟩, [], 0⟩
/-- The state behind a text. -/
def pAdd (t : St) (l : List UInt8) : St := ⟨(pThrough t.s (t.rest ++ l)).1, (pThrough t.s (t.rest ++ l)).2, add64 t.count (BitVec.ofNat 64 l.length)⟩

end Go.Proofs.YtaclnlmmkcjjeaaDoor

namespace Go.Proofs.YtaclnlmmkcjjeaaDoor
open Go.RowKit
set_option linter.unusedSimpArgs false
set_option linter.unusedVariables false

set_option maxHeartbeats 400000 in
set_option maxRecDepth 100000 in
theorem through_calls (st : S8) (l : List UInt8) (hl : l.length ≤ maxLen) (w : World) (tabs : Tabs w) :
    Calls Tryd.prog 53 #[.agg st.cells, .string (str l)] w fun e w' => e = .returned (.tuple #[.agg (pThrough st l).1.cells, .string (str (pThrough st l).2)]) ∧ Below w.heap.size w w' := by
  obtain ⟨a, b, c, d, e, f, g, h⟩ := st
  unfold maxLen at hl
  generalize hT : pThrough ⟨a, b, c, d, e, f, g, h⟩ l = T
  simp only [S8.cells, S8.list, wc, List.map]
  have HT := hide hT
  clear hT
  go_enter Tryd.func53, Tryd.ntmps53
  go_wp2
  go_loopw [1] (fun t wr => ∃ (m : List UInt8) (s : S8), t = .string (str m) ∧ m.length ≤ l.length ∧ Hid (pThrough s m = T) ∧ Below w.heap.size w wr ∧ w.heap.size + 1 + 1 ≤ wr.heap.size ∧ wr.heap[w.heap.size]? = some (.cells s.cells 68 (0, 0)) ∧ wr.heap[w.heap.size + 1]? = some (.cells (wc (List.replicate 8 0)) 68 (0, 0))) (fun t _ => match t with | .string s => s.size | _ => 0)
  case atStart => exact ⟨l, ⟨a, b, c, d, e, f, g, h⟩, rfl, Nat.le_refl _, HT, bel2 _ _ _, by simp, (al2 _ _ _).1, (al2 _ _ _).2⟩
  case round =>
    obtain ⟨m, s, rfl, hm, hS, hb, hB, q0, q1⟩ := hrel
    by_cases hlt : 64 ≤ m.length
    · have hge : decide ((64 : Int) ≤ ((m.length : Nat) : Int)) = true := by simp; omega
      obtain ⟨s0, s1, s2, s3, s4, s5, s6, s7⟩ := s
      have c0 : wr.cell? ⟨w.heap.size, 0, none⟩ = some (.int .u32 (s0.toNat : Int)) := cell_of_row _ _ _ _ _ _ q0
      have c1 : wr.cell? ⟨w.heap.size, 1, none⟩ = some (.int .u32 (s1.toNat : Int)) := cell_of_row _ _ _ _ _ _ q0
      have c2 : wr.cell? ⟨w.heap.size, 2, none⟩ = some (.int .u32 (s2.toNat : Int)) := cell_of_row _ _ _ _ _ _ q0
      have c3 : wr.cell? ⟨w.heap.size, 3, none⟩ = some (.int .u32 (s3.toNat : Int)) := cell_of_row _ _ _ _ _ _ q0
      have c4 : wr.cell? ⟨w.heap.size, 4, none⟩ = some (.int .u32 (s4.toNat : Int)) := cell_of_row _ _ _ _ _ _ q0
      have c5 : wr.cell? ⟨w.heap.size, 5, none⟩ = some (.int .u32 (s5.toNat : Int)) := cell_of_row _ _ _ _ _ _ q0
      have c6 : wr.cell? ⟨w.heap.size, 6, none⟩ = some (.int .u32 (s6.toNat : Int)) := cell_of_row _ _ _ _ _ _ q0
      have c7 : wr.cell? ⟨w.heap.size, 7, none⟩ = some (.int .u32 (s7.toNat : Int)) := cell_of_row _ _ _ _ _ _ q0
      have b64 : (64 : Int) ≤ (m.length : Int) := by omega
      have es := take_str m 64
      have ed := drop_str m 64 _ rfl
      go_wp2
      refine wp_region_still_tail 3 mixed (by kernel_rfl) ?_
      simp only [List.take_succ_cons, List.take_zero, List.drop_succ_cons, List.drop_zero]
      iterate 3 still_step
      refine wpStill_nil ?_
      have hsz : (str (m.take 64)).size = 64 := by simp; omega
      have tb : Tabs wr.drew := tabs.below hb.drew (Nat.le_refl _)
      have q0d : wr.drew.heap[w.heap.size]? = some (.cells (S8.mk s0 s1 s2 s3 s4 s5 s6 s7).cells 68 (0, 0)) := q0
      show wpList _ _ _ _ _ wr.drew
      go_wp2_with fail
      refine (block_calls ⟨s0, s1, s2, s3, s4, s5, s6, s7⟩ _ hsz _ tb).mono ?_
      rintro e w1 ⟨rfl, hb1⟩
      have q0' : w1.heap[w.heap.size]? = some (.cells (S8.mk s0 s1 s2 s3 s4 s5 s6 s7).cells 68 (0, 0)) := Below.at hb1 (by show w.heap.size < wr.heap.size; omega) q0
      have q1' : w1.heap[w.heap.size + 1]? = some (.cells (wc (List.replicate 8 0)) 68 (0, 0)) := Below.at hb1 (by show w.heap.size + 1 < wr.heap.size; omega) q1
      generalize hpb : pBlock ⟨s0, s1, s2, s3, s4, s5, s6, s7⟩ (str (m.take 64)).data.toList = pb
      have hib : (Tryd.prog.info? 68).map (·.size) = some pb.cells.size := by show _ = some 8; kernel_rfl
      have ho1 : pb.cells.all (·.oneCell') = true := wc_oneCell _
      have Hpb := hide hpb
      clear hpb
      have z1 := hb1.size
      go_wp2_with (refine wpList_store_row rfl 68 (.tmp 2) (.tmp 12) rfl w.heap.size _ rfl rfl 68 _ q0' hib rfl ho1 ?_)
      go_roundw
      case rel =>
        refine ⟨m.drop 64, pb, rfl, by simp; omega, ?_, below_setRow ((hb.drew).trans (hb1.mono (by show w.heap.size ≤ wr.heap.size; omega))) (Nat.le_refl _) _, ?_, setRow_heap _ _ _ _ _ _ q0', ?_⟩
        · have h1 := unhide hS
          rw [pThrough_step _ _ hlt] at h1
          have h2 := unhide Hpb
          rw [str_toList] at h2
          rw [h2] at h1
          exact hide h1
        · rw [setRow_size]; have : wr.drew.heap.size = wr.heap.size := rfl; omega
        · rw [setRow_other _ _ _ _ (by omega)]; exact q1'
      case measure => simp; omega
    · have hge : decide ((64 : Int) ≤ ((m.length : Nat) : Int)) = false := by simp; omega
      have hi : (Tryd.prog.info? 68).map (·.size) = some s.cells.size := by show _ = some 8; kernel_rfl
      have ho1 : s.cells.all (·.oneCell') = true := wc_oneCell _
      rw [pThrough_end _ _ (by omega)] at hS
      go_wp2_with (first
        | (refine wpList_load_row rfl 68 (.tmp 2) rfl w.heap.size rfl 68 _ (0, 0) _ q0 Tryd.underlying68 rfl hi ?_)
        | (refine wpList_store_row rfl 68 (.tmp 4) (.tmp 15) rfl (w.heap.size + 1) _ rfl rfl 68 _ q1 hi rfl ho1 ?_))
      exact bodyPost_ret (results_row_tmp rfl _ _ (w.heap.size + 1) _ _ _ _ rfl (setRow_heap _ _ _ _ _ _ q1) Tryd.underlying68 rfl hi) rfl ⟨by rw [← unhide hS]; rfl, below_setRow hb (by simp) _⟩

/-- The same, the words written out. -/
theorem through_lit (a b c d e f g h : BitVec 32) (l : List UInt8) (hl : l.length ≤ maxLen) (w : World) (tabs : Tabs w) :
    Calls Tryd.prog 53 #[.agg #[.int .u32 (a.toNat : Int), .int .u32 (b.toNat : Int), .int .u32 (c.toNat : Int), .int .u32 (d.toNat : Int), .int .u32 (e.toNat : Int), .int .u32 (f.toNat : Int), .int .u32 (g.toNat : Int), .int .u32 (h.toNat : Int)], .string (str l)] w fun en w' =>
      ∃ (r0 r1 r2 r3 r4 r5 r6 r7 : BitVec 32) (m : List UInt8), en = .returned (.tuple #[.agg #[.int .u32 (r0.toNat : Int), .int .u32 (r1.toNat : Int), .int .u32 (r2.toNat : Int), .int .u32 (r3.toNat : Int), .int .u32 (r4.toNat : Int), .int .u32 (r5.toNat : Int), .int .u32 (r6.toNat : Int), .int .u32 (r7.toNat : Int)], .string (str m)]) ∧ Hid (pThrough ⟨a, b, c, d, e, f, g, h⟩ l = (⟨r0, r1, r2, r3, r4, r5, r6, r7⟩, m)) ∧ Below w.heap.size w w' := by
  refine (through_calls ⟨a, b, c, d, e, f, g, h⟩ l hl w tabs).mono ?_
  rintro en w' ⟨rfl, hb⟩
  generalize hT : pThrough ⟨a, b, c, d, e, f, g, h⟩ l = T
  obtain ⟨⟨r0, r1, r2, r3, r4, r5, r6, r7⟩, m⟩ := T
  exact ⟨r0, r1, r2, r3, r4, r5, r6, r7, m, rfl, rfl, hb⟩
theorem pThrough_rest_le (s : S8) (l : List UInt8) : (pThrough s l).2.length < 64 ∧ (pThrough s l).2.length ≤ l.length := by
  generalize hn : l.length = n
  induction n using Nat.strongRecOn generalizing s l with
  | _ n ih =>
    by_cases h : 64 ≤ l.length
    · rw [pThrough_step s l h]
      have := ih (l.drop 64).length (by simp; omega) (pBlock s (l.take 64)) (l.drop 64) rfl
      simp at this; omega
    · rw [pThrough_end s l (by omega)]; simp; omega
end Go.Proofs.YtaclnlmmkcjjeaaDoor

namespace Go.Proofs.YtaclnlmmkcjjeaaDoor
open Go.RowKit
set_option linter.unusedSimpArgs false
set_option linter.unusedVariables false

theorem Tabs.below' {w w' : World} (t : Tabs w) (hb : Below w.heap.size w w') : Tabs w' := t.below hb (Nat.le_refl _)

set_option maxHeartbeats 400000 in
set_option maxRecDepth 100000 in
theorem begin_calls (w : World) (tabs : Tabs w) :
    Calls Tryd.prog 42 #[] w fun e w' => e = .returned (.agg pBegin.cells) ∧ Below w.heap.size w w' := by
  have k0 : w.cell? ⟨0, 0, none⟩ = some (.int .u32 1779033703) := tabs.h 0 (by decide)
  have k1 : w.cell? ⟨0, 1, none⟩ = some (.int .u32 3144134277) := tabs.h 1 (by decide)
  have k2 : w.cell? ⟨0, 2, none⟩ = some (.int .u32 1013904242) := tabs.h 2 (by decide)
  have k3 : w.cell? ⟨0, 3, none⟩ = some (.int .u32 2773480762) := tabs.h 3 (by decide)
  have k4 : w.cell? ⟨0, 4, none⟩ = some (.int .u32 1359893119) := tabs.h 4 (by decide)
  have k5 : w.cell? ⟨0, 5, none⟩ = some (.int .u32 2600822924) := tabs.h 5 (by decide)
  have k6 : w.cell? ⟨0, 6, none⟩ = some (.int .u32 528734635) := tabs.h 6 (by decide)
  have k7 : w.cell? ⟨0, 7, none⟩ = some (.int .u32 1541459225) := tabs.h 7 (by decide)
  have hz := tabs.size
  go_enter Tryd.func42, Tryd.ntmps42
  go_wp2
  exact bodyPost_ret (results_cell_row rfl _ _ w.heap.size _ _ _ _ rfl (al1 _ _) Tryd.underlying84 rfl (by kernel_rfl)) rfl ⟨rfl, (Below.refl _ _).alloc (Nat.le_refl _) _⟩

set_option maxHeartbeats 400000 in
set_option maxRecDepth 100000 in
theorem add_calls (st : St) (l : List UInt8) (hl : st.rest.length + l.length ≤ 140737488355328) (w : World) (tabs : Tabs w) :
    Calls Tryd.prog 43 #[.agg st.cells, .string (str l)] w fun e w' => e = .returned (.agg (pAdd st l).cells) ∧ Below w.heap.size w w' := by
  obtain ⟨⟨a, b, c, d, e, f, g, h⟩, rest, count⟩ := st
  simp only [St.cells]
  have hl : rest.length + l.length ≤ 140737488355328 := hl
  have ea := append_str rest l
  have n1 : ¬ 9223372036854775807 < rest.length + l.length := by omega
  go_enter Tryd.func43, Tryd.ntmps43
  go_wp2_with fail
  refine (through_lit a b c d e f g h (rest ++ l) (by simp [maxLen]; omega) _ (tabs.below' (bel2 _ _ _))).mono ?_
  rintro en w1 ⟨r0, r1, r2, r3, r4, r5, r6, r7, m, rfl, HT, hb1⟩
  have z1 : w.heap.size + 1 + 1 ≤ w1.heap.size := by have := hb1.size; simpa using this
  have q0 := Below.at hb1 (by simp; omega) (al2 _ _ _).1
  have q1 := Below.at hb1 (by simp) (al2 _ _ _).2
  have hb : Below w.heap.size w w1 := (bel2 _ _ _).trans (hb1.mono (by simp; omega))
  clear hb1
  have Q0 := hide q0
  have Q1 := hide q1
  clear q0 q1
  go_wp2_with fail
  have q2 := al1 w1 (.cells #[.int .u32 (r0.toNat : Int), .int .u32 (r1.toNat : Int), .int .u32 (r2.toNat : Int), .int .u32 (r3.toNat : Int), .int .u32 (r4.toNat : Int), .int .u32 (r5.toNat : Int), .int .u32 (r6.toNat : Int), .int .u32 (r7.toNat : Int)] 68)
  have q0 := Below.at ((Below.refl w1.heap.size w1).alloc (Nat.le_refl _) (.cells #[.int .u32 (r0.toNat : Int), .int .u32 (r1.toNat : Int), .int .u32 (r2.toNat : Int), .int .u32 (r3.toNat : Int), .int .u32 (r4.toNat : Int), .int .u32 (r5.toNat : Int), .int .u32 (r6.toNat : Int), .int .u32 (r7.toNat : Int)] 68)) (by omega) (unhide Q0)
  have q1 := Below.at ((Below.refl w1.heap.size w1).alloc (Nat.le_refl _) (.cells #[.int .u32 (r0.toNat : Int), .int .u32 (r1.toNat : Int), .int .u32 (r2.toNat : Int), .int .u32 (r3.toNat : Int), .int .u32 (r4.toNat : Int), .int .u32 (r5.toNat : Int), .int .u32 (r6.toNat : Int), .int .u32 (r7.toNat : Int)] 68)) (by omega) (unhide Q1)
  have hb2 := hb.alloc (by omega) (.cells #[.int .u32 (r0.toNat : Int), .int .u32 (r1.toNat : Int), .int .u32 (r2.toNat : Int), .int .u32 (r3.toNat : Int), .int .u32 (r4.toNat : Int), .int .u32 (r5.toNat : Int), .int .u32 (r6.toNat : Int), .int .u32 (r7.toNat : Int)] 68)
  generalize hw2 : w1.alloc (.cells #[.int .u32 (r0.toNat : Int), .int .u32 (r1.toNat : Int), .int .u32 (r2.toNat : Int), .int .u32 (r3.toNat : Int), .int .u32 (r4.toNat : Int), .int .u32 (r5.toNat : Int), .int .u32 (r6.toNat : Int), .int .u32 (r7.toNat : Int)] 68) = w2 at *
  have z2 : w2.heap.size = w1.heap.size + 1 := by rw [← hw2]; simp
  have c0 : ∀ d os, (Sort.grow (redrawn w2 d) os).cell? ⟨w1.heap.size, 0, none⟩ = some (.int .u32 (r0.toNat : Int)) := cell_regrown (cell_of_row _ _ _ _ _ _ q2)
  have c1 : ∀ d os, (Sort.grow (redrawn w2 d) os).cell? ⟨w1.heap.size, 1, none⟩ = some (.int .u32 (r1.toNat : Int)) := cell_regrown (cell_of_row _ _ _ _ _ _ q2)
  have c2 : ∀ d os, (Sort.grow (redrawn w2 d) os).cell? ⟨w1.heap.size, 2, none⟩ = some (.int .u32 (r2.toNat : Int)) := cell_regrown (cell_of_row _ _ _ _ _ _ q2)
  have c3 : ∀ d os, (Sort.grow (redrawn w2 d) os).cell? ⟨w1.heap.size, 3, none⟩ = some (.int .u32 (r3.toNat : Int)) := cell_regrown (cell_of_row _ _ _ _ _ _ q2)
  have c4 : ∀ d os, (Sort.grow (redrawn w2 d) os).cell? ⟨w1.heap.size, 4, none⟩ = some (.int .u32 (r4.toNat : Int)) := cell_regrown (cell_of_row _ _ _ _ _ _ q2)
  have c5 : ∀ d os, (Sort.grow (redrawn w2 d) os).cell? ⟨w1.heap.size, 5, none⟩ = some (.int .u32 (r5.toNat : Int)) := cell_regrown (cell_of_row _ _ _ _ _ _ q2)
  have c6 : ∀ d os, (Sort.grow (redrawn w2 d) os).cell? ⟨w1.heap.size, 6, none⟩ = some (.int .u32 (r6.toNat : Int)) := cell_regrown (cell_of_row _ _ _ _ _ _ q2)
  have c7 : ∀ d os, (Sort.grow (redrawn w2 d) os).cell? ⟨w1.heap.size, 7, none⟩ = some (.int .u32 (r7.toNat : Int)) := cell_regrown (cell_of_row _ _ _ _ _ _ q2)
  have c9 : ∀ d os, (Sort.grow (redrawn w2 d) os).cell? ⟨w.heap.size, 9, none⟩ = some (.int .u64 (count.toNat : Int)) := cell_regrown (cell_of_row _ _ _ _ _ _ q0)
  obtain ⟨x, hx, ex⟩ : ∃ x : BitVec 64, Hid (BitVec.ofNat 64 l.length = x) ∧ IntKind.u64.wrap (l.length : Int) = (x.toNat : Int) := ⟨_, rfl, by rw [IntKind.wrap_u64]; simp⟩
  have hm := pThrough_rest_le ⟨a, b, c, d, e, f, g, h⟩ (rest ++ l)
  rw [unhide HT] at hm
  have hcl : ∀ d os, _ := fun d os => Calls.regrown_of (w := w2) (d := d) (os := os) (clone_calls (str m) _ (by simp; simp at hm; omega))
  have aw := a64_wrap
  clear hw2 hb Q0 Q1 hm
  have Q1 := hide q1
  clear q0 q1 q2
  refine wp_region_below_tail 10 mixed (by kernel_rfl) ?_
  simp only [List.take_succ_cons, List.take_zero, List.drop_succ_cons, List.drop_zero]
  repeat (quiet_step (exact hcl _ _))
  refine wpQuiet_nil ?_
  intro w3 hb3
  have q1' := Below.at hb3 (by omega) (unhide Q1)
  have hst : pAdd ⟨⟨a, b, c, d, e, f, g, h⟩, rest, count⟩ l = ⟨⟨r0, r1, r2, r3, r4, r5, r6, r7⟩, m, add64 count x⟩ := by
    simp only [pAdd]; rw [unhide HT, unhide hx]
  have Hst := hide hst
  clear hst Q1
  have hi : (Tryd.prog.info? 84).map (·.size) = some (St.mk ⟨r0, r1, r2, r3, r4, r5, r6, r7⟩ m (add64 count x)).cells.size := by show _ = some 10; kernel_rfl
  have ho := St.oneCell ⟨⟨r0, r1, r2, r3, r4, r5, r6, r7⟩, m, add64 count x⟩
  go_wp2_with (refine wpList_store_row rfl 84 (.tmp 4) (.tmp 26) rfl (w.heap.size + 1) _ rfl rfl 84 _ q1' hi rfl ho ?_)
  exact bodyPost_ret (results_cell_row rfl _ _ (w.heap.size + 1) _ _ _ _ rfl (setRow_heap _ _ _ _ _ _ q1') Tryd.underlying84 rfl hi) rfl ⟨by rw [unhide Hst], below_setRow (hb2.trans (hb3.mono (by omega))) (by simp) _⟩
end Go.Proofs.YtaclnlmmkcjjeaaDoor

namespace Go.Proofs.YtaclnlmmkcjjeaaDoor
open Go.RowKit
set_option linter.unusedSimpArgs false

/-- A number's eight bytes, the highest first. -/
def be64 (x : BitVec 64) : List UInt8 := (List.range 8).map fun i => UInt8.ofNat (x.toNat / 2 ^ (56 - 8 * i))
theorem be64_length (x : BitVec 64) : (be64 x).length = 8 := by simp [be64]
theorem be64_at (x : BitVec 64) (i : Nat) (h : i < 8) : (be64 x).getD i 0 = UInt8.ofNat (x.toNat / 2 ^ (56 - 8 * i)) := by
  simp [be64, h]
/-- How many noughts stand behind the byte 80. -/
def noughts (rest : Nat) : Nat := (119 - rest % 64) % 64
def mul8 (x : BitVec 64) : BitVec 64 := 8 * x
theorem m8_wrap (x : BitVec 64) : IntKind.u64.wrap (8 * (x.toNat : Int)) = ((mul8 x).toNat : Int) := by
  rw [IntKind.wrap_u64, mul8, BitVec.toNat_mul]
  show _ = ((8 * x.toNat % 18446744073709551616 : Nat) : Int)
  omega
/-- What makes a rest whole blocks, and tells the count. -/
def padBytes (rest : Nat) (count : BitVec 64) : List UInt8 := 128 :: (List.replicate (noughts rest) 0 ++ be64 (mul8 count))
theorem padBytes_length (rest : Nat) (count : BitVec 64) : (padBytes rest count).length = 9 + noughts rest := by simp [padBytes, be64_length]; omega

end Go.Proofs.YtaclnlmmkcjjeaaDoor

namespace Go.Proofs.YtaclnlmmkcjjeaaDoor
open Go.RowKit
set_option linter.unusedSimpArgs false
set_option linter.unusedVariables false

set_option maxHeartbeats 400000 in
set_option maxRecDepth 100000 in
theorem padding_calls (rest : Nat) (hr : rest ≤ 140737488355328) (count : BitVec 64) (w : World) :
    Calls Tryd.prog 55 #[.int .i64 (rest : Int), .int .u64 (count.toNat : Int)] w fun e w' => e = .returned (.string (str (padBytes rest count))) ∧ Below w.heap.size w w' := by
  generalize hn : noughts rest = n
  have hn64 : n < 64 := by rw [← hn]; exact Nat.mod_lt _ (by decide)
  have e1 : ((119 : Int) - (rest : Int) % 64) % 64 = (n : Int) := by rw [← hn, noughts]; omega
  have mk := make_bytes (1 + n + 8) (by omega)
  rw [show ((1 + n + 8 : Nat) : Int) = 1 + (n : Int) + 8 by omega] at mk
  have m8 := m8_wrap
  have Hn := hide hn
  clear hn
  go_enter Tryd.func55, Tryd.ntmps55
  go_wp2
  generalize hx : mul8 count = x
  have Hx := hide hx
  clear hx
  go_loopw [21] (fun i wr => ∃ k : Nat, k ≤ 8 ∧ i = .int .i64 k ∧ Below w.heap.size w wr ∧ wr.heap[w.heap.size]? = some (.cells (bc (128 :: (List.replicate n 0 ++ (be64 x).take k) ++ List.replicate (8 - k) 0)) 5 (0, 0))) (fun i _ => 8 - (intOf i).toNat)
  case atStart =>
    refine ⟨0, by omega, rfl, (Below.refl _ _).alloc (Nat.le_refl _) _, ?_⟩
    rw [al1, show 1 + n + 8 = (n + 8) + 1 by omega, List.replicate_succ]
    have := bc_set [] (List.replicate (n + 8) 0) 0 128 0 rfl
    simp only [List.nil_append] at this
    simp only [List.take_zero, List.append_nil, Nat.sub_zero, List.cons_append, List.replicate_append_replicate]
    exact congrArg (fun c => some (Obj.cells c 5 (0, 0))) this
  case round =>
    obtain ⟨k, hk, rfl, hb, q⟩ := hrel
    by_cases hlt : k < 8
    · have hl : (128 :: (List.replicate n 0 ++ (be64 x).take k) : List UInt8).length = 1 + n + k := by simp [be64_length]; omega
      have hlen : (128 :: (List.replicate n 0 ++ (be64 x).take k) ++ List.replicate (8 - k) 0 : List UInt8).length = 1 + n + 8 := by rw [List.length_append, hl, List.length_replicate]; omega
      have c : wr.cell? ⟨w.heap.size, 1 + n + k, none⟩ = some (.int .u8 (((128 :: (List.replicate n 0 ++ (be64 x).take k) ++ List.replicate (8 - k) 0 : List UInt8).getD (1 + n + k) 0).toNat : Int)) := by
        rw [cell_of_row _ _ _ _ _ _ q]; exact bc_at _ _ (by omega)
      have f : wr.frozen? ⟨w.heap.size, 1 + n + k, none⟩ = false := frozen_of_row _ _ _ _ _ q
      have b1 : (0 : Int) ≤ 1 + n + k ∧ (1 : Int) + n + k < 1 + n + 8 := by omega
      have Hl := hide hl
      obtain ⟨s, hs, es⟩ : ∃ s : Nat, Hid (56 - 8 * k = s) ∧ (56 : Int) - 8 * (k : Int) = (s : Int) := ⟨_, rfl, by omega⟩
      have hs64 : s ≤ 56 := by have := unhide hs; omega
      generalize hv : (128 :: (List.replicate n 0 ++ (be64 x).take k) ++ List.replicate (8 - k) 0 : List UInt8).getD (1 + n + k) 0 = v at c
      clear hlen hl hv mk m8
      go_wp2
      go_roundw
      case rel =>
        refine ⟨k + 1, by omega, by go_num, hb.setCell (by simp) _, ?_⟩
        rw [byte_mod, ← unhide hs, ← be64_at x k hlt]
        have hz : List.replicate (8 - k) (0 : UInt8) = 0 :: List.replicate (8 - (k + 1)) 0 := by rw [show 8 - k = (8 - (k + 1)) + 1 by omega]; rfl
        rw [hz] at q
        rw [heap_setCell_same _ _ _ _ _ _ q, bc_set _ _ _ _ _ (unhide Hl).symm]
        have ht : (be64 x).take (k + 1) = (be64 x).take k ++ [(be64 x).getD k 0] := by
          rw [List.take_succ_eq_append_getElem (by rw [be64_length]; omega)]
          simp [be64_length, hlt]
        rw [ht]; simp
      case measure => simp [intOf]; omega
    · have q' : wr.heap[w.heap.size]? = some (.cells (bc (padBytes rest count)) 5 (0, 0)) := by
        rw [q, show k = 8 by omega, padBytes, unhide Hn, unhide Hx, List.take_of_length_le (by rw [be64_length]; omega)]; simp
      have hl : (padBytes rest count).length = 1 + n + 8 := by rw [padBytes_length, unhide Hn]; omega
      have hcv := run_convert_bytes_back (P := Tryd.prog) wr 67 9 5 ⟨w.heap.size, 0, none⟩ (1 + n + 8) (padBytes rest count) Tryd.underlying67 Tryd.underlying5 Tryd.underlying9 (fun j hj => by
        have hadd : (⟨w.heap.size, 0, none⟩ : Addr).add j = ⟨w.heap.size, j, none⟩ := by unfold Addr.add; split <;> simp_all
        rw [hadd, cell_of_row _ _ _ _ _ _ q', bc_at _ _ hj]; simp [hj])
      rw [hl] at hcv
      generalize hp : padBytes rest count = pb at *
      have Hp := hide hp
      have hd : decide ((k : Int) < 8) = false := by simp; omega
      clear q q' hl mk m8 hp
      go_wp2
      go_ret
      exact ⟨by rw [unhide Hp]; rfl, hb⟩
end Go.Proofs.YtaclnlmmkcjjeaaDoor

namespace Go.Proofs.YtaclnlmmkcjjeaaDoor
open Go.RowKit
set_option linter.unusedSimpArgs false
set_option linter.unusedVariables false

/-- Words as bytes, the highest byte of each first. -/
def wordBytes (x : BitVec 32) : List UInt8 := [UInt8.ofNat (x.toNat / 2 ^ 24), UInt8.ofNat (x.toNat / 2 ^ 16), UInt8.ofNat (x.toNat / 2 ^ 8), UInt8.ofNat (x.toNat / 2 ^ 0)]
def S8.bytes (s : S8) : List UInt8 := s.list.flatMap wordBytes
/-- The digest that a state ends in. -/
def pEnd (t : St) : List UInt8 := (pThrough t.s (t.rest ++ padBytes t.rest.length t.count)).1.bytes
theorem S8.bytes_length (s : S8) : s.bytes.length = 32 := rfl
theorem wordBytes_length (x : BitVec 32) : (wordBytes x).length = 4 := rfl
theorem wordBytes_at (x : BitVec 32) (j : Nat) (h : j < 4) : (wordBytes x).getD j 0 = UInt8.ofNat (x.toNat / 2 ^ (24 - 8 * j)) := by
  match j, h with
  | 0, _ => rfl
  | 1, _ => rfl
  | 2, _ => rfl
  | 3, _ => rfl
theorem flat_length (l : List (BitVec 32)) : (l.flatMap wordBytes).length = 4 * l.length := by
  induction l with
  | nil => rfl
  | cons x l ih => simp [ih, wordBytes_length]; omega
set_option maxHeartbeats 2000000 in
set_option maxRecDepth 100000 in
theorem end_calls (st : St) (hl : st.rest.length ≤ 140737488355000) (w : World) (tabs : Tabs w) :
    Calls Tryd.prog 44 #[.agg st.cells] w fun e w' => e = .returned (.agg (bc (pEnd st))) ∧ Below w.heap.size w w' := by
  obtain ⟨⟨a, b, c, d, e, f, g, h⟩, rest, count⟩ := st
  simp only [St.cells]
  have hl : rest.length ≤ 140737488355000 := hl
  have hpl := padBytes_length rest.length count
  have hn64 : noughts rest.length < 64 := Nat.mod_lt _ (by decide)
  generalize hpd : padBytes rest.length count = pd at *
  have ea := append_str rest pd
  have n1 : ¬ 9223372036854775807 < rest.length + pd.length := by omega
  have Hpd := hide hpd
  have hpb : pd.length ≤ 72 := by omega
  clear hpd hpl
  go_enter Tryd.func44, Tryd.ntmps44
  go_wp2
  have q0 := (al2 w (.cells (St.mk ⟨a, b, c, d, e, f, g, h⟩ rest count).cells 84) (.cells (bc (List.replicate 32 0)) 30)).1
  have q1 := (al2 w (.cells (St.mk ⟨a, b, c, d, e, f, g, h⟩ rest count).cells 84) (.cells (bc (List.replicate 32 0)) 30)).2
  have hb2 := bel2 w (.cells (St.mk ⟨a, b, c, d, e, f, g, h⟩ rest count).cells 84) (.cells (bc (List.replicate 32 0)) 30)
  have z2 : ((w.alloc (.cells (St.mk ⟨a, b, c, d, e, f, g, h⟩ rest count).cells 84)).alloc (.cells (bc (List.replicate 32 0)) 30)).heap.size = w.heap.size + 1 + 1 := by simp
  generalize hw2 : (w.alloc (.cells (St.mk ⟨a, b, c, d, e, f, g, h⟩ rest count).cells 84)).alloc (.cells (bc (List.replicate 32 0)) 30) = w2 at *
  change Code.wp _ _ _ _ ((w.alloc (.cells (St.mk ⟨a, b, c, d, e, f, g, h⟩ rest count).cells 84)).alloc (.cells (bc (List.replicate 32 0)) 30))
  rw [hw2]
  have c0 : w2.cell? ⟨w.heap.size, 0, none⟩ = some (.int .u32 (a.toNat : Int)) := cell_of_row _ _ _ _ _ _ q0
  have c1 : w2.cell? ⟨w.heap.size, 1, none⟩ = some (.int .u32 (b.toNat : Int)) := cell_of_row _ _ _ _ _ _ q0
  have c2 : w2.cell? ⟨w.heap.size, 2, none⟩ = some (.int .u32 (c.toNat : Int)) := cell_of_row _ _ _ _ _ _ q0
  have c3 : w2.cell? ⟨w.heap.size, 3, none⟩ = some (.int .u32 (d.toNat : Int)) := cell_of_row _ _ _ _ _ _ q0
  have c4 : w2.cell? ⟨w.heap.size, 4, none⟩ = some (.int .u32 (e.toNat : Int)) := cell_of_row _ _ _ _ _ _ q0
  have c5 : w2.cell? ⟨w.heap.size, 5, none⟩ = some (.int .u32 (f.toNat : Int)) := cell_of_row _ _ _ _ _ _ q0
  have c6 : w2.cell? ⟨w.heap.size, 6, none⟩ = some (.int .u32 (g.toNat : Int)) := cell_of_row _ _ _ _ _ _ q0
  have c7 : w2.cell? ⟨w.heap.size, 7, none⟩ = some (.int .u32 (h.toNat : Int)) := cell_of_row _ _ _ _ _ _ q0
  have c8 : w2.cell? ⟨w.heap.size, 8, none⟩ = some (.string (str rest)) := cell_of_row _ _ _ _ _ _ q0
  have c9 : w2.cell? ⟨w.heap.size, 9, none⟩ = some (.int .u64 (count.toNat : Int)) := cell_of_row _ _ _ _ _ _ q0
  generalize hT : pThrough ⟨a, b, c, d, e, f, g, h⟩ (rest ++ pd) = T
  obtain ⟨⟨r0, r1, r2, r3, r4, r5, r6, r7⟩, m⟩ := T
  have tb2 : Tabs w2 := tabs.below' hb2
  have hzB : w.heap.size < w2.heap.size := by omega
  have hpad : ∀ w3, Below w2.heap.size w2 w3 → Calls Tryd.prog 55 #[.int .i64 (rest.length : Int), .int .u64 (count.toNat : Int)] w3 fun e w' => e = .returned (.string (str pd)) ∧ Below w2.heap.size w2 w' ∧ Below w3.heap.size w3 w' := fun w3 h3 => by
    refine (padding_calls rest.length (by omega) count _).mono ?_
    rintro en w' ⟨rfl, hb⟩
    rw [unhide Hpd]; exact ⟨rfl, h3.trans (hb.mono h3.size), hb⟩
  have hth : ∀ w3, Below w2.heap.size w2 w3 → Calls Tryd.prog 53 #[.agg #[.int .u32 (a.toNat : Int), .int .u32 (b.toNat : Int), .int .u32 (c.toNat : Int), .int .u32 (d.toNat : Int), .int .u32 (e.toNat : Int), .int .u32 (f.toNat : Int), .int .u32 (g.toNat : Int), .int .u32 (h.toNat : Int)], .string (str (rest ++ pd))] w3 fun en w' => en = .returned (.tuple #[.agg #[.int .u32 (r0.toNat : Int), .int .u32 (r1.toNat : Int), .int .u32 (r2.toNat : Int), .int .u32 (r3.toNat : Int), .int .u32 (r4.toNat : Int), .int .u32 (r5.toNat : Int), .int .u32 (r6.toNat : Int), .int .u32 (r7.toNat : Int)], .string (str m)]) ∧ Below w2.heap.size w2 w' ∧ Below w3.heap.size w3 w' := fun w3 h3 => by
    refine (through_calls ⟨a, b, c, d, e, f, g, h⟩ (rest ++ pd) (by simp [maxLen]; omega) _ (tb2.below' h3)).mono ?_
    rintro en w' ⟨rfl, hb⟩
    rw [hT]; exact ⟨rfl, h3.trans (hb.mono h3.size), hb⟩
  have HT := hide hT
  have Q1 := hide q1
  have Hpad := hide hpad
  have Hth := hide hth
  have Hz2 := hide z2
  clear hT q0 q1 hw2 tb2 hpad hth z2
  go_cut [3, 4] (fun p s wc => ∃ gg : Nat, p = .pointer (some ⟨gg, 0, none⟩) ∧ s = .string (str m) ∧ wc.heap[gg]? = some (.cells #[.int .u32 (r0.toNat : Int), .int .u32 (r1.toNat : Int), .int .u32 (r2.toNat : Int), .int .u32 (r3.toNat : Int), .int .u32 (r4.toNat : Int), .int .u32 (r5.toNat : Int), .int .u32 (r6.toNat : Int), .int .u32 (r7.toNat : Int)] 68 (0, 0)) ∧ w2.heap.size ≤ gg ∧ Below w2.heap.size w2 wc)
  case first =>
    have HS : Hid (∀ w', Below w2.heap.size w2 w' → w'.cell? ⟨w.heap.size, 0, none⟩ = some (.int .u32 (a.toNat : Int)) ∧ w'.cell? ⟨w.heap.size, 1, none⟩ = some (.int .u32 (b.toNat : Int)) ∧ w'.cell? ⟨w.heap.size, 2, none⟩ = some (.int .u32 (c.toNat : Int)) ∧ w'.cell? ⟨w.heap.size, 3, none⟩ = some (.int .u32 (d.toNat : Int)) ∧ w'.cell? ⟨w.heap.size, 4, none⟩ = some (.int .u32 (e.toNat : Int)) ∧ w'.cell? ⟨w.heap.size, 5, none⟩ = some (.int .u32 (f.toNat : Int)) ∧ w'.cell? ⟨w.heap.size, 6, none⟩ = some (.int .u32 (g.toNat : Int)) ∧ w'.cell? ⟨w.heap.size, 7, none⟩ = some (.int .u32 (h.toNat : Int)) ∧ w'.cell? ⟨w.heap.size, 8, none⟩ = some (.string (str rest)) ∧ w'.cell? ⟨w.heap.size, 9, none⟩ = some (.int .u64 (count.toNat : Int))) := fun w' hw => by
      have hc := fun o => hw.cell (p := ⟨w.heap.size, o, none⟩) hzB
      simp only [hc]
      exact ⟨c0, c1, c2, c3, c4, c5, c6, c7, c8, c9⟩
    go_region_held3 (fun w' => w'.cell? ⟨w.heap.size, 0, none⟩ = some (.int .u32 (a.toNat : Int)) ∧ w'.cell? ⟨w.heap.size, 1, none⟩ = some (.int .u32 (b.toNat : Int)) ∧ w'.cell? ⟨w.heap.size, 2, none⟩ = some (.int .u32 (c.toNat : Int)) ∧ w'.cell? ⟨w.heap.size, 3, none⟩ = some (.int .u32 (d.toNat : Int)) ∧ w'.cell? ⟨w.heap.size, 4, none⟩ = some (.int .u32 (e.toNat : Int)) ∧ w'.cell? ⟨w.heap.size, 5, none⟩ = some (.int .u32 (f.toNat : Int)) ∧ w'.cell? ⟨w.heap.size, 6, none⟩ = some (.int .u32 (g.toNat : Int)) ∧ w'.cell? ⟨w.heap.size, 7, none⟩ = some (.int .u32 (h.toNat : Int)) ∧ w'.cell? ⟨w.heap.size, 8, none⟩ = some (.string (str rest)) ∧ w'.cell? ⟨w.heap.size, 9, none⟩ = some (.int .u64 (count.toNat : Int)))
      (exact unhide HS _ (by (repeat' (first | with_reducible assumption | with_reducible exact Below.refl _ _ | with_reducible refine Below.drew ?_ | with_reducible refine Below.alloc ?_ ?_ _ | with_reducible refine Below.setCell ?_ ?_ _ | with_reducible exact Nat.le_refl _ | with_reducible exact Below.size (by with_reducible assumption) | (show w2.heap.size ≤ _; simp only [World.size_alloc, World.size_drew, World.size_setCell]; omega)))))
      (first
        | (go_at_call 55; refine (unhide Hpad _ ?_).mono ?_; (repeat' (first | with_reducible assumption | with_reducible exact Below.refl _ _ | with_reducible refine Below.drew ?_ | with_reducible refine Below.alloc ?_ ?_ _ | with_reducible refine Below.setCell ?_ ?_ _ | with_reducible exact Nat.le_refl _ | with_reducible exact Below.size (by with_reducible assumption) | (show w2.heap.size ≤ _; simp only [World.size_alloc, World.size_drew, World.size_setCell]; omega))); rintro e w' ⟨rfl, hbb, hbc⟩; obtain ⟨hk, hkf, hz2, hh⟩ := alloc_kept_drew hbc; clear hbc)
        | (go_at_call 55; refine (unhide Hpad _ ?_).mono ?_; (repeat' (first | with_reducible assumption | with_reducible exact Below.refl _ _ | with_reducible refine Below.drew ?_ | with_reducible refine Below.alloc ?_ ?_ _ | with_reducible refine Below.setCell ?_ ?_ _ | with_reducible exact Nat.le_refl _ | with_reducible exact Below.size (by with_reducible assumption) | (show w2.heap.size ≤ _; simp only [World.size_alloc, World.size_drew, World.size_setCell]; omega))); rintro e w' ⟨rfl, hbb, hbc⟩; clear hbc)
        | (go_at_call 53; refine (unhide Hth _ ?_).mono ?_; (repeat' (first | with_reducible assumption | with_reducible exact Below.refl _ _ | with_reducible refine Below.drew ?_ | with_reducible refine Below.alloc ?_ ?_ _ | with_reducible refine Below.setCell ?_ ?_ _ | with_reducible exact Nat.le_refl _ | with_reducible exact Below.size (by with_reducible assumption) | (show w2.heap.size ≤ _; simp only [World.size_alloc, World.size_drew, World.size_setCell]; omega))); rintro e w' ⟨rfl, hbb, hbc⟩; have hk2 : ∀ o : Nat, w'.cell? ⟨w2.heap.size, o, none⟩ = (#[.int .u32 0, .int .u32 0, .int .u32 0, .int .u32 0, .int .u32 0, .int .u32 0, .int .u32 0, .int .u32 0] : Array Value)[o]? := fun o => (hbc.cell (p := ⟨w2.heap.size, o, none⟩) hz2).trans (hk o); have hkf2 : ∀ o : Nat, w'.frozen? ⟨w2.heap.size, o, none⟩ = false := fun o => (hbc.frozen (p := ⟨w2.heap.size, o, none⟩) hz2).trans (hkf o); have hh2 := hide ((hbc.block _ hz2).trans (unhide hh)); clear hk hkf hbc hh)
        | (go_at_call 53; refine (unhide Hth _ ?_).mono ?_; (repeat' (first | with_reducible assumption | with_reducible exact Below.refl _ _ | with_reducible refine Below.drew ?_ | with_reducible refine Below.alloc ?_ ?_ _ | with_reducible refine Below.setCell ?_ ?_ _ | with_reducible exact Nat.le_refl _ | with_reducible exact Below.size (by with_reducible assumption) | (show w2.heap.size ≤ _; simp only [World.size_alloc, World.size_drew, World.size_setCell]; omega))); rintro e w' ⟨rfl, hbb, hbc⟩; obtain ⟨hk, hkf, hz2, hh⟩ := alloc_kept hbc; clear hbc)
        | (go_at_call 53; refine (unhide Hth _ ?_).mono ?_; (repeat' (first | with_reducible assumption | with_reducible exact Below.refl _ _ | with_reducible refine Below.drew ?_ | with_reducible refine Below.alloc ?_ ?_ _ | with_reducible refine Below.setCell ?_ ?_ _ | with_reducible exact Nat.le_refl _ | with_reducible exact Below.size (by with_reducible assumption) | (show w2.heap.size ≤ _; simp only [World.size_alloc, World.size_drew, World.size_setCell]; omega))); rintro e w' ⟨rfl, hbb, hbc⟩; clear hbc))
    · go_wp2
      go_meet
      case rel => exact ⟨_, rfl, rfl, al1 _ _, by (repeat' (first | with_reducible assumption | with_reducible exact Below.refl _ _ | with_reducible refine Below.drew ?_ | with_reducible refine Below.alloc ?_ ?_ _ | with_reducible refine Below.setCell ?_ ?_ _ | with_reducible exact Nat.le_refl _ | with_reducible exact Below.size (by with_reducible assumption) | (show w2.heap.size ≤ _; simp only [World.size_alloc, World.size_drew, World.size_setCell]; omega))), by (repeat' (first | with_reducible assumption | with_reducible exact Below.refl _ _ | with_reducible refine Below.drew ?_ | with_reducible refine Below.alloc ?_ ?_ _ | with_reducible refine Below.setCell ?_ ?_ _ | with_reducible exact Nat.le_refl _ | with_reducible exact Below.size (by with_reducible assumption) | (show w2.heap.size ≤ _; simp only [World.size_alloc, World.size_drew, World.size_setCell]; omega)))⟩
    · go_wp2
      go_meet
      case rel =>
        refine ⟨_, rfl, rfl, ?_, by (repeat' (first | with_reducible assumption | with_reducible exact Below.refl _ _ | with_reducible refine Below.drew ?_ | with_reducible refine Below.alloc ?_ ?_ _ | with_reducible refine Below.setCell ?_ ?_ _ | with_reducible exact Nat.le_refl _ | with_reducible exact Below.size (by with_reducible assumption) | (show w2.heap.size ≤ _; simp only [World.size_alloc, World.size_drew, World.size_setCell]; omega))), by (repeat' (first | with_reducible assumption | with_reducible exact Below.refl _ _ | with_reducible refine Below.drew ?_ | with_reducible refine Below.alloc ?_ ?_ _ | with_reducible refine Below.setCell ?_ ?_ _ | with_reducible exact Nat.le_refl _ | with_reducible exact Below.size (by with_reducible assumption) | (show w2.heap.size ≤ _; simp only [World.size_alloc, World.size_drew, World.size_setCell]; omega)))⟩
        exact set8 _ _ _ _ _ _ _ _ _ _ _ _ _ _ _ _ _ _ _ (unhide hh)
    · go_wp2
      go_meet
      case rel =>
        refine ⟨_, rfl, rfl, ?_, by (repeat' (first | with_reducible assumption | with_reducible exact Below.refl _ _ | with_reducible refine Below.drew ?_ | with_reducible refine Below.alloc ?_ ?_ _ | with_reducible refine Below.setCell ?_ ?_ _ | with_reducible exact Nat.le_refl _ | with_reducible exact Below.size (by with_reducible assumption) | (show w2.heap.size ≤ _; simp only [World.size_alloc, World.size_drew, World.size_setCell]; omega))), by (repeat' (first | with_reducible assumption | with_reducible exact Below.refl _ _ | with_reducible refine Below.drew ?_ | with_reducible refine Below.alloc ?_ ?_ _ | with_reducible refine Below.setCell ?_ ?_ _ | with_reducible exact Nat.le_refl _ | with_reducible exact Below.size (by with_reducible assumption) | (show w2.heap.size ≤ _; simp only [World.size_alloc, World.size_drew, World.size_setCell]; omega)))⟩
        exact set8 _ _ _ _ _ _ _ _ _ _ _ _ _ _ _ _ _ _ _ (unhide hh2)
  case rest =>
    clear Hpad Hth c0 c1 c2 c3 c4 c5 c6 c7 c8 c9
    obtain ⟨gg, rfl, rfl, qg, hgg, hbw⟩ := hcut
    obtain ⟨rl, hrl, hrlen⟩ : ∃ rl : List (BitVec 32), Hid ([r0, r1, r2, r3, r4, r5, r6, r7] = rl) ∧ rl.length = 8 := ⟨_, rfl, rfl⟩
    have hglt : gg < wc.heap.size := by
      by_cases hlt : gg < wc.heap.size
      · exact hlt
      · rw [Array.getElem?_eq_none (by omega)] at qg; cases qg
    have qg' : ∀ o, (wc.alloc o).heap[gg]? = some (.cells (Go.Proofs.YtaclnlmmkcjjeaaDoor.wc rl) 68 (0, 0)) := fun o => by
      rw [Below.heap_alloc _ _ _ hglt, qg, ← unhide hrl]; rfl
    have hir : (Tryd.prog.info? 68).map (·.size) = some (Go.Proofs.YtaclnlmmkcjjeaaDoor.wc rl).size := by rw [wc_size, hrlen]; kernel_rfl
    have hd := al1 wc (.cells (bc (List.replicate 32 0)) 30)
    have hres : wc.heap[w.heap.size + 1]? = some (.cells (bc (List.replicate 32 0)) 30 (0, 0)) := Below.at hbw (by have := unhide Hz2; omega) (unhide Q1)
    have hzc : w.heap.size + 1 < wc.heap.size := by have := hbw.size; have := unhide Hz2; omega
    have hres' := (Below.heap_alloc wc (.cells (bc (List.replicate 32 0)) 30) _ hzc).trans hres
    have hbel : Below w.heap.size w (wc.alloc (.cells (bc (List.replicate 32 0)) 30)) := (hb2.trans (hbw.mono (by have := unhide Hz2; omega))).alloc (by omega) _
    have Hd := hide hd
    have Hr := hide hres'
    clear qg hres hd hres' hbw hgg
    go_wp2_with (refine wpList_load_row rfl 68 (.tmp 3) rfl gg rfl 68 _ (0, 0) _ (qg' _) Tryd.underlying68 rfl hir ?_)
    clear qg' hir
    generalize hBd : wc.heap.size = Bd at *
    clear hBd
    go_loopw [25] (fun i wr => ∃ k : Nat, k ≤ 8 ∧ i = .int .i64 k ∧ Below w.heap.size w wr ∧ wr.heap[Bd]? = some (.cells (bc ((rl.take k).flatMap wordBytes ++ List.replicate (32 - 4 * k) 0)) 30 (0, 0)) ∧ wr.heap[w.heap.size + 1]? = some (.cells (bc (List.replicate 32 0)) 30 (0, 0))) (fun i _ => 8 - (intOf i).toNat)
    case atStart => exact ⟨0, by omega, rfl, hbel, unhide Hd, unhide Hr⟩
    case round =>
      clear hbel Hd Hr
      obtain ⟨k, hk, rfl, hb, q, qr⟩ := hrel
      by_cases hlt : k < 8
      · have hidx := index8 rl hrlen k hlt
        generalize hx : rl.getD k 0 = x at hidx
        have Hx := hide hx
        clear hx
        have hdk : decide ((k : Int) < 8) = true := by simp; omega
        generalize hpre : (rl.take k).flatMap wordBytes = pre at q
        have hplen : pre.length = 4 * k := by rw [← hpre, flat_length, List.length_take, hrlen]; omega
        have Hpre := hide hpre
        have Hpl := hide hplen
        clear hpre hplen
        go_wp2
        go_loopw [29] (fun i wr => ∃ j : Nat, j ≤ 4 ∧ i = .int .i64 j ∧ Below w.heap.size w wr ∧ wr.heap[Bd]? = some (.cells (bc (pre ++ (wordBytes x).take j ++ List.replicate (32 - 4 * k - j) 0)) 30 (0, 0)) ∧ wr.heap[w.heap.size + 1]? = some (.cells (bc (List.replicate 32 0)) 30 (0, 0))) (fun i _ => 4 - (intOf i).toNat)
        case atStart => exact ⟨0, by omega, rfl, hb, by rw [q]; simp, qr⟩
        case round =>
          clear hb q qr
          obtain ⟨j, hj, rfl, hb, q, qr⟩ := hrel
          by_cases hjl : j < 4
          · have hl : (pre ++ (wordBytes x).take j).length = 4 * k + j := by rw [List.length_append, unhide Hpl, List.length_take, wordBytes_length]; omega
            have hz : List.replicate (32 - 4 * k - j) (0 : UInt8) = 0 :: List.replicate (32 - 4 * k - (j + 1)) 0 := by rw [show 32 - 4 * k - j = (32 - 4 * k - (j + 1)) + 1 by omega]; rfl
            rw [hz] at q
            have c : wr.cell? ⟨Bd, 4 * k + j, none⟩ = some (.int .u8 (((pre ++ (wordBytes x).take j ++ 0 :: List.replicate (32 - 4 * k - (j + 1)) 0).getD (4 * k + j) 0).toNat : Int)) := by
              rw [cell_of_row _ _ _ _ _ _ q]; exact bc_at _ _ (by rw [List.length_append, hl]; simp)
            generalize hv : (pre ++ (wordBytes x).take j ++ 0 :: List.replicate (32 - 4 * k - (j + 1)) 0).getD (4 * k + j) 0 = v at c
            have fz : wr.frozen? ⟨Bd, 4 * k + j, none⟩ = false := frozen_of_row _ _ _ _ _ q
            have b1 : (0 : Int) ≤ 4 * k + j ∧ (4 : Int) * k + j < 32 := by omega
            have b2 : (4 * (k : Int) + (j : Int)).toNat = 4 * k + j := by omega
            obtain ⟨sh, hsh, esh⟩ : ∃ sh : Nat, Hid (24 - 8 * j = sh) ∧ (24 : Int) - 8 * (j : Int) = (sh : Int) := ⟨_, rfl, by omega⟩
            have hs24 : sh ≤ 24 := by have := unhide hsh; omega
            have Hl := hide hl
            have Hq := hide q
            have hBlt : w.heap.size ≤ Bd := by omega
            clear hz hl hv q
            go_wp2
            go_roundw
            case rel =>
              refine ⟨j + 1, by omega, by go_num, hb.setCell (by simp; omega) _, ?_, ?_⟩
              · rw [byte_mod, ← unhide hsh, ← wordBytes_at x j hjl, heap_setCell_same _ _ _ _ _ _ (unhide Hq), bc_set _ _ _ _ _ (unhide Hl).symm, take_snoc' _ _ 0 (by rw [wordBytes_length]; omega)]
                simp
              · rw [heap_setCell_other _ _ _ _ (by simp; omega)]; exact qr
            case measure => simp [intOf]; omega
          · have hdj : decide ((j : Int) < 4) = false := by simp; omega
            have q' : wr.heap[Bd]? = some (.cells (bc ((rl.take (k + 1)).flatMap wordBytes ++ List.replicate (32 - 4 * (k + 1)) 0)) 30 (0, 0)) := by
              rw [q, show j = 4 by omega, take_snoc' rl k 0 (by omega), List.flatMap_append, unhide Hpre, unhide Hx, List.take_of_length_le (by rw [wordBytes_length]; omega), show 32 - 4 * k - 4 = 32 - 4 * (k + 1) by omega]
              simp
            clear q
            go_wp2
            go_roundw
            case rel => exact ⟨k + 1, by omega, by go_num, hb, q', qr⟩
            case measure => simp [intOf]; omega
      · have hdk : decide ((k : Int) < 8) = false := by simp; omega
        have hend : pEnd ⟨⟨a, b, c, d, e, f, g, h⟩, rest, count⟩ = rl.flatMap wordBytes := by
          simp only [pEnd]; rw [unhide Hpd, unhide HT, ← unhide hrl]; rfl
        have q' : wr.heap[Bd]? = some (.cells (bc (pEnd ⟨⟨a, b, c, d, e, f, g, h⟩, rest, count⟩)) 30 (0, 0)) := by
          rw [q, show k = 8 by omega, hend, List.take_of_length_le (by omega)]; simp
        generalize hE : pEnd ⟨⟨a, b, c, d, e, f, g, h⟩, rest, count⟩ = res at q' hend
        have HE := hide hE
        have hil : (Tryd.prog.info? 30).map (·.size) = some (bc res).size := by rw [bc_size, hend, flat_length, hrlen]; kernel_rfl
        have ho1 := bc_oneCell res
        have hsz : (bc (List.replicate 32 (0 : UInt8))).size = (bc res).size := by rw [bc_size, bc_size, hend, flat_length, hrlen]; rfl
        clear q hend hE
        go_wp2_with (first
          | (refine wpList_load_row rfl 30 (.tmp 5) rfl Bd rfl 30 _ (0, 0) _ q' Tryd.underlying30 rfl hil ?_)
          | (refine wpList_store_row rfl 30 (.tmp 2) (.tmp 45) rfl (w.heap.size + 1) _ rfl rfl 30 _ qr hil hsz ho1 ?_))
        exact bodyPost_ret (results_cell_row rfl _ _ (w.heap.size + 1) _ _ _ _ rfl (setRow_heap _ _ _ _ _ _ qr) Tryd.underlying30 rfl hil) rfl ⟨by rw [unhide HE], below_setRow hb (by simp) _⟩
end Go.Proofs.YtaclnlmmkcjjeaaDoor

namespace Go.Proofs.YtaclnlmmkcjjeaaDoor
open Go.RowKit
set_option linter.unusedSimpArgs false
set_option linter.unusedVariables false

/-- The digest of parts. -/
def pSum (parts : List (List UInt8)) : List UInt8 := pEnd (parts.foldl pAdd pBegin)
theorem pEnd_length (t : St) : (pEnd t).length = 32 := S8.bytes_length _
theorem pSum_length (parts : List (List UInt8)) : (pSum parts).length = 32 := pEnd_length _
/-- Strings in a row of memory. -/
def StrsAt (w : World) (a : Option Addr) (parts : List (List UInt8)) : Prop :=
  parts = [] ∨ ∃ b o, a = some ⟨b, o, none⟩ ∧ b < w.heap.size ∧ ∀ j, j < parts.length → w.cell? ⟨b, o + j, none⟩ = some (.string (str (parts.getD j [])))
theorem StrsAt.below {w w' : World} {B : Nat} {a : Option Addr} {parts : List (List UInt8)} (h : StrsAt w a parts) (hb : Below B w w') (hB : w.heap.size ≤ B) : StrsAt w' a parts := by
  rcases h with h | ⟨b, o, rfl, hlt, hc⟩
  · exact .inl h
  · exact .inr ⟨b, o, rfl, Nat.lt_of_lt_of_le hlt hb.size, fun j hj => by rw [hb.cell (p := ⟨b, o + j, none⟩) (by show b < B; omega)]; exact hc j hj⟩
theorem foldl_take_succ {α β : Type} (f : β → α → β) (b : β) (l : List α) (k : Nat) (d : α) (h : k < l.length) : (l.take (k + 1)).foldl f b = f ((l.take k).foldl f b) (l.getD k d) := by
  rw [take_snoc' l k d h, List.foldl_append]; rfl
theorem add_rest (t : St) (l : List UInt8) : (pAdd t l).rest.length < 64 := (pThrough_rest_le _ _).1
theorem fold_rest (parts : List (List UInt8)) : (parts.foldl pAdd pBegin).rest.length < 64 := by
  rcases List.eq_nil_or_concat parts with rfl | ⟨l, x, rfl⟩
  · decide
  · rw [List.concat_eq_append, List.foldl_append]; exact add_rest _ _

set_option maxHeartbeats 1000000 in
set_option maxRecDepth 100000 in
theorem sum_some (parts : List (List UInt8)) (hp : ∀ p ∈ parts, p.length ≤ 70368744177664) (hn : parts.length ≤ 70368744177664) (b o : Nat) (cap : Nat) (w : World) (hlt : b < w.heap.size) (hc : ∀ j, j < parts.length → w.cell? ⟨b, o + j, none⟩ = some (.string (str (parts.getD j [])))) (tabs : Tabs w) :
    Calls Tryd.prog 28 #[.slice (some ⟨b, o, none⟩) parts.length cap] w fun e w' => e = .returned (.agg (bc (pSum parts))) ∧ Below w.heap.size w w' := by
  go_enter Tryd.func28, Tryd.ntmps28
  go_wp2_with fail
  refine (begin_calls _ (tabs.below' ((Below.refl _ _).alloc (Nat.le_refl _) _))).mono ?_
  rintro en w1 ⟨rfl, hb1⟩
  have hb0 : Below w.heap.size w w1 := ((Below.refl _ _).alloc (Nat.le_refl _) _).trans (hb1.mono (by simp))
  have z1 : w.heap.size < w1.heap.size := by have := hb1.size; simp at this; omega
  have q0 : w1.heap[w.heap.size]? = some (.cells (bc (List.replicate 32 0)) 30 (0, 0)) := Below.at hb1 (by simp) (al1 _ _)
  clear hb1
  have hiS : ∀ st : St, (Tryd.prog.info? 84).map (·.size) = some st.cells.size := fun st => by show _ = some 10; kernel_rfl
  have hi0 := hiS pBegin
  have ho0 := St.oneCell pBegin
  have HiS := hide hiS
  clear hiS
  go_wp2_with (refine wpList_store_row rfl 84 (.tmp 3) (.tmp 6) rfl w1.heap.size _ rfl rfl 84 _ (al1 _ _) hi0 rfl ho0 ?_)
  have q1 := setRow_heap _ _ _ pBegin.cells _ _ (al1 w1 (.cells (St.mk ⟨0, 0, 0, 0, 0, 0, 0, 0⟩ [] 0).cells 84))
  have q0' := (setRow_other (w1.alloc (.cells (St.mk ⟨0, 0, 0, 0, 0, 0, 0, 0⟩ [] 0).cells 84)) w1.heap.size w.heap.size pBegin.cells (by omega)).trans ((Below.heap_alloc w1 _ _ z1).trans q0)
  have hb2 := below_setRow (hb0.alloc (by omega) (.cells (St.mk ⟨0, 0, 0, 0, 0, 0, 0, 0⟩ [] 0).cells 84)) (Nat.le_of_lt z1) pBegin.cells
  have HQ1 := hide q1
  have HQ0 := hide q0'
  have HB2 := hide hb2
  clear hb0 q0 q1 q0' hb2 hi0 ho0
  go_loopw [9] (fun i wr => ∃ k : Nat, k ≤ parts.length ∧ i = .int .i64 k ∧ Below w.heap.size w wr ∧ w1.heap.size < wr.heap.size ∧ wr.heap[w1.heap.size]? = some (.cells ((parts.take k).foldl pAdd pBegin).cells 84 (0, 0)) ∧ wr.heap[w.heap.size]? = some (.cells (bc (List.replicate 32 0)) 30 (0, 0))) (fun i _ => parts.length - (intOf i).toNat)
  case atStart => exact ⟨0, by omega, rfl, unhide HB2, by simp, unhide HQ1, unhide HQ0⟩
  case round =>
    clear HB2 HQ1 HQ0
    obtain ⟨k, hk, rfl, hb, hz, q1, q0⟩ := hrel
    generalize hBs : w1.heap.size = Bs at *
    clear hBs
    by_cases hlk : k < parts.length
    · have hdk : decide ((k : Int) < (parts.length : Int)) = true := by simp; omega
      have bk : (0 : Int) ≤ k ∧ (k : Int) < (parts.length : Int) := by omega
      have c : wr.cell? ⟨b, o + k, none⟩ = some (.string (str (parts.getD k []))) := by rw [hb.cell (p := ⟨b, o + k, none⟩) hlt]; exact hc k hlk
      have hfold := foldl_take_succ pAdd pBegin parts k [] hlk
      have hpk : (parts.getD k []).length ≤ 70368744177664 := by
        rw [List.getD_eq_getElem?_getD, List.getElem?_eq_getElem hlk]; exact hp _ (List.getElem_mem _)
      have hrest := fold_rest (parts.take k)
      generalize hpt : parts.getD k [] = pt at c hfold hpk
      generalize hst : (parts.take k).foldl pAdd pBegin = st at q1 hfold hrest
      have tb := tabs.below hb (Nat.le_refl _)
      have hi1 := unhide HiS st
      have Hfold := hide hfold
      clear hpt hst hfold
      go_wp2_with (first
        | (refine wpList_load_row rfl 84 (.tmp 3) rfl Bs rfl 84 _ (0, 0) _ q1 Tryd.underlying84 rfl hi1 ?_)
        | (go_at_call 43; fail))
      refine (add_calls st pt (by omega) _ tb).mono ?_
      rintro en w3 ⟨rfl, hb3⟩
      have q1' := Below.at hb3 hz q1
      have q0' := Below.at hb3 (by omega) q0
      have z3 := hb3.size
      have hi2 := unhide HiS (pAdd st pt)
      have ho2 := St.oneCell (pAdd st pt)
      go_wp2_with (refine wpList_store_row rfl 84 (.tmp 3) (.tmp 15) rfl Bs _ rfl rfl 84 _ q1' hi2 rfl ho2 ?_)
      go_roundw
      case rel =>
        refine ⟨k + 1, by omega, by go_num, below_setRow (hb.trans (hb3.mono (by omega))) (by omega) _, by rw [setRow_size]; omega, ?_, ?_⟩
        · rw [unhide Hfold]; exact setRow_heap _ _ _ _ _ _ q1'
        · rw [setRow_other _ _ _ _ (by omega)]; exact q0'
      case measure => simp [intOf]; omega
    · have hdk : decide ((k : Int) < (parts.length : Int)) = false := by simp; omega
      rw [List.take_of_length_le (by omega)] at q1
      have tb := tabs.below hb (Nat.le_refl _)
      have hrest := fold_rest parts
      generalize hst : (parts).foldl pAdd pBegin = st at q1 hrest
      have Hst := hide hst
      have hi1 := unhide HiS st
      clear hst
      go_wp2_with (refine wpList_load_row rfl 84 (.tmp 3) rfl Bs rfl 84 _ (0, 0) _ q1 Tryd.underlying84 rfl hi1 ?_)
      refine (end_calls st (by omega) _ tb).mono ?_
      rintro en w3 ⟨rfl, hb3⟩
      have q0' := Below.at hb3 (by omega) q0
      have hil : (Tryd.prog.info? 30).map (·.size) = some (bc (pEnd st)).size := by rw [bc_size, pEnd_length]; kernel_rfl
      have ho1 := bc_oneCell (pEnd st)
      have hsz : (bc (List.replicate 32 (0 : UInt8))).size = (bc (pEnd st)).size := by rw [bc_size, bc_size, pEnd_length]; rfl
      go_wp2_with (refine wpList_store_row rfl 30 (.tmp 2) (.tmp 18) rfl w.heap.size _ rfl rfl 30 _ q0' hil hsz ho1 ?_)
      exact bodyPost_ret (results_cell_row rfl _ _ w.heap.size _ _ _ _ rfl (setRow_heap _ _ _ _ _ _ q0') Tryd.underlying30 rfl hil) rfl ⟨by rw [pSum, unhide Hst], below_setRow (hb.trans (hb3.mono (by omega))) (Nat.le_refl _) _⟩

set_option maxHeartbeats 1000000 in
set_option maxRecDepth 100000 in
theorem sum_none (a : Option Addr) (cap : Nat) (w : World) (tabs : Tabs w) :
    Calls Tryd.prog 28 #[.slice a 0 cap] w fun e w' => e = .returned (.agg (bc (pSum []))) ∧ Below w.heap.size w w' := by
  go_enter Tryd.func28, Tryd.ntmps28
  go_wp2_with fail
  refine (begin_calls _ (tabs.below' ((Below.refl _ _).alloc (Nat.le_refl _) _))).mono ?_
  rintro en w1 ⟨rfl, hb1⟩
  have hb0 : Below w.heap.size w w1 := ((Below.refl _ _).alloc (Nat.le_refl _) _).trans (hb1.mono (by simp))
  have z1 : w.heap.size < w1.heap.size := by have := hb1.size; simp at this; omega
  have q0 : w1.heap[w.heap.size]? = some (.cells (bc (List.replicate 32 0)) 30 (0, 0)) := Below.at hb1 (by simp) (al1 _ _)
  clear hb1
  have hiS : ∀ st : St, (Tryd.prog.info? 84).map (·.size) = some st.cells.size := fun st => by show _ = some 10; kernel_rfl
  have hi0 := hiS pBegin
  have ho0 := St.oneCell pBegin
  have HiS := hide hiS
  clear hiS
  go_wp2_with (refine wpList_store_row rfl 84 (.tmp 3) (.tmp 6) rfl w1.heap.size _ rfl rfl 84 _ (al1 _ _) hi0 rfl ho0 ?_)
  have q1 := setRow_heap _ _ _ pBegin.cells _ _ (al1 w1 (.cells (St.mk ⟨0, 0, 0, 0, 0, 0, 0, 0⟩ [] 0).cells 84))
  have q0' := (setRow_other (w1.alloc (.cells (St.mk ⟨0, 0, 0, 0, 0, 0, 0, 0⟩ [] 0).cells 84)) w1.heap.size w.heap.size pBegin.cells (by omega)).trans ((Below.heap_alloc w1 _ _ z1).trans q0)
  have hb2 := below_setRow (hb0.alloc (by omega) (.cells (St.mk ⟨0, 0, 0, 0, 0, 0, 0, 0⟩ [] 0).cells 84)) (Nat.le_of_lt z1) pBegin.cells
  have HQ1 := hide q1
  have HQ0 := hide q0'
  have HB2 := hide hb2
  clear hb0 q0 q1 q0' hb2 hi0 ho0
  go_loopw [9] (fun i wr => ∃ k : Nat, k ≤ 0 ∧ i = .int .i64 k ∧ Below w.heap.size w wr ∧ w1.heap.size < wr.heap.size ∧ wr.heap[w1.heap.size]? = some (.cells ((([] : List (List UInt8)).take k).foldl pAdd pBegin).cells 84 (0, 0)) ∧ wr.heap[w.heap.size]? = some (.cells (bc (List.replicate 32 0)) 30 (0, 0))) (fun i _ => 0 - (intOf i).toNat)
  case atStart => exact ⟨0, by omega, rfl, unhide HB2, by simp, unhide HQ1, unhide HQ0⟩
  case round =>
    clear HB2 HQ1 HQ0
    obtain ⟨k, hk, rfl, hb, hz, q1, q0⟩ := hrel
    generalize hBs : w1.heap.size = Bs at *
    clear hBs
    rw [List.take_nil] at q1
    have hdk : decide ((k : Int) < 0) = false := by simp
    have tb := tabs.below hb (Nat.le_refl _)
    have hrest := fold_rest []
    generalize hst : ([] : List (List UInt8)).foldl pAdd pBegin = st at q1 hrest
    have Hst := hide hst
    have hi1 := unhide HiS st
    clear hst
    go_wp2_with (refine wpList_load_row rfl 84 (.tmp 3) rfl Bs rfl 84 _ (0, 0) _ q1 Tryd.underlying84 rfl hi1 ?_)
    refine (end_calls st (by omega) _ tb).mono ?_
    rintro en w3 ⟨rfl, hb3⟩
    have q0' := Below.at hb3 (by omega) q0
    have hil : (Tryd.prog.info? 30).map (·.size) = some (bc (pEnd st)).size := by rw [bc_size, pEnd_length]; kernel_rfl
    have ho1 := bc_oneCell (pEnd st)
    have hsz : (bc (List.replicate 32 (0 : UInt8))).size = (bc (pEnd st)).size := by rw [bc_size, bc_size, pEnd_length]; rfl
    go_wp2_with (refine wpList_store_row rfl 30 (.tmp 2) (.tmp 18) rfl w.heap.size _ rfl rfl 30 _ q0' hil hsz ho1 ?_)
    exact bodyPost_ret (results_cell_row rfl _ _ w.heap.size _ _ _ _ rfl (setRow_heap _ _ _ _ _ _ q0') Tryd.underlying30 rfl hil) rfl ⟨by rw [pSum, unhide Hst], below_setRow (hb.trans (hb3.mono (by omega))) (Nat.le_refl _) _⟩

theorem sum_calls (parts : List (List UInt8)) (hp : ∀ p ∈ parts, p.length ≤ 70368744177664) (hn : parts.length ≤ 70368744177664) (a : Option Addr) (cap : Nat) (w : World) (hs : StrsAt w a parts) (tabs : Tabs w) :
    Calls Tryd.prog 28 #[.slice a parts.length cap] w fun e w' => e = .returned (.agg (bc (pSum parts))) ∧ Below w.heap.size w w' := by
  rcases hs with rfl | ⟨b, o, rfl, hlt, hc⟩
  · exact sum_none a cap w tabs
  · exact sum_some parts hp hn b o cap w hlt hc tabs
end Go.Proofs.YtaclnlmmkcjjeaaDoor

namespace Go.Proofs.YtaclnlmmkcjjeaaDoor
open Go.RowKit
set_option linter.unusedSimpArgs false
set_option linter.unusedVariables false

/-- A domain's and parts' input. -/
def pInput (dom : Nat) (parts : List (List UInt8)) : List UInt8 := pBig dom 1 ++ parts.flatMap pText4
/-- Their digest. -/
def pOf (dom : Nat) (parts : List (List UInt8)) : List UInt8 := pSum [pInput dom parts]
theorem pOf_length (dom : Nat) (parts : List (List UInt8)) : (pOf dom parts).length = 32 := pSum_length _
theorem flatText_len (M : Nat) : ∀ parts : List (List UInt8), (∀ p ∈ parts, p.length ≤ M) → (parts.flatMap pText4).length ≤ (4 + M) * parts.length
  | [], _ => by simp
  | p :: ps, h => by
    have h1 := h p (by simp)
    have h2 := flatText_len M ps fun q hq => h q (by simp [hq])
    rw [List.flatMap_cons, List.length_append, pText4_length, List.length_cons, Nat.mul_succ]; omega
theorem pInput_len (dom : Nat) (parts : List (List UInt8)) (h : ∀ p ∈ parts, p.length ≤ 100000000) (hn : parts.length ≤ 1000) : (pInput dom parts).length ≤ 200000000000 := by
  have := flatText_len 100000000 parts h
  have h2 : (4 + 100000000) * parts.length ≤ (4 + 100000000) * 1000 := Nat.mul_le_mul_left _ hn
  unfold pInput
  rw [List.length_append, pBig_length]; omega
theorem strCells_str (m : List UInt8) : Lib.strCells (str m) = Lib.byteCells m := by simp [Lib.strCells, Lib.byteCells, str]
theorem in_bound (M : Nat) (parts : List (List UInt8)) (k : Nat) (h : ∀ p ∈ parts, p.length ≤ M) (hn : parts.length ≤ 1000) : ((parts.take k).flatMap pText4).length ≤ (4 + M) * 1000 := by
  have := flatText_len M (parts.take k) fun p hp => h p (List.mem_of_mem_take hp)
  refine Nat.le_trans this (Nat.mul_le_mul_left _ ?_)
  rw [List.length_take]; omega
set_option maxHeartbeats 2000000 in
set_option maxRecDepth 100000 in
theorem inputOf_calls (dom : Nat) (hd : dom < 256) (parts : List (List UInt8)) (hp : ∀ p ∈ parts, p.length ≤ 100000000) (hn : parts.length ≤ 1000) (a : Option Addr) (cap : Nat) (w : World) (hs : StrsAt w a parts) :
    Calls Tryd.prog 27 #[.int .u8 (dom : Int), .slice a parts.length cap] w fun e w' => e = .returned (.string (str (pInput dom parts))) ∧ Below w.heap.size w w' := by
  have hb0 : ∀ k, ((parts.take k).flatMap pText4).length ≤ 200000000000 := fun k => Nat.le_trans (in_bound _ parts k hp hn) (by decide)
  have HB0 := hide hb0
  have HP := hide hp
  have HS := hide hs
  obtain ⟨R, hR⟩ : ∃ R, Hid (pInput dom parts = R) := ⟨_, hide rfl⟩
  rw [unhide hR]
  clear hb0 hp hs
  go_enter Tryd.func27, Tryd.ntmps27
  have hbld := Lib.IsBuilderF.of (Lib.fresh_isBuilder 76 5 w)
  go_wp2_with fail
  refine (wbyte_calls dom hd _).mono ?_
  rintro e w1 ⟨rfl, b1⟩
  have hbd1 := isBuilder_below hbld b1
  have hb1 : Below w.heap.size w w1 := ((Below.refl _ w).alloc (Nat.le_refl _) _).trans (b1.mono (by simp))
  go_wp2_with fail
  refine (writeString_calls w.heap.size w.heap.size _ _ _ hbd1 (by rw [str_size, pBig_length]; simp) hb1.size).mono ?_
  rintro e w2 ⟨rfl, h2, b2, k2⟩
  rw [strCells_str, List.nil_append] at h2
  have hb2 := hb1.trans b2
  clear hbld b1 hbd1 hb1 b2 k2
  go_wp2
  go_loopw [7, 13] (fun _ i wr => ∃ k : Nat, k ≤ parts.length ∧ i = .int .i64 (k : Int) ∧ Lib.IsBuilderF 76 5 w.heap.size w.heap.size (Lib.byteCells (pBig dom 1 ++ (parts.take k).flatMap pText4)) wr ∧ Below w.heap.size w wr) (fun _ i _ => parts.length - (intOf i).toNat)
  case atStart => exact ⟨0, by omega, rfl, by rw [List.take_zero, List.flatMap_nil, List.append_nil]; exact Or.inr h2, hb2⟩
  case round =>
    clear h2 hb2
    obtain ⟨k, hk, rfl, hB, hb⟩ := hrel
    have hz := hb.size
    by_cases hlt : k < parts.length
    · have hd1 : decide ((k : Int) < (parts.length : Int)) = true := by simp; omega
      have bk : (0 : Int) ≤ k ∧ (k : Int) < (parts.length : Int) := by omega
      obtain ⟨g, o, rfl, hg, hc⟩ : ∃ b o, a = some ⟨b, o, none⟩ ∧ b < w.heap.size ∧ ∀ j, j < parts.length → w.cell? ⟨b, o + j, none⟩ = some (.string (str (parts.getD j []))) := by
        rcases unhide HS with h | h
        · rw [h] at hlt; simp at hlt
        · exact h
      have c : wr.cell? ⟨g, o + k, none⟩ = some (.string (str (parts.getD k []))) := by rw [hb.cell (p := ⟨g, o + k, none⟩) hg]; exact hc k hlt
      have hpk : (parts.getD k []).length ≤ 100000000 := by
        rw [List.getD_eq_getElem?_getD, List.getElem?_eq_getElem hlt]; exact unhide HP _ (List.getElem_mem _)
      have hnew : pBig dom 1 ++ (parts.take (k + 1)).flatMap pText4 = (pBig dom 1 ++ (parts.take k).flatMap pText4) ++ pText4 (parts.getD k []) := by
        rw [take_snoc' parts k [] hlt, List.flatMap_append]; simp
      have hl0 := unhide HB0 k
      have hpl := pText4_length (parts.getD k [])
      have hbl := pBig_length dom 1
      have hal : (pBig dom 1 ++ (parts.take k).flatMap pText4).length ≤ 200000000001 := by rw [List.length_append]; omega
      generalize pBig dom 1 ++ (parts.take k).flatMap pText4 = acc at *
      generalize parts.getD k [] = pt at *
      have ct := fun w => wtext_calls pt (by omega) w
      generalize pText4 pt = tx at *
      have Hnew := hide hnew
      clear hc hnew hbl hl0
      go_wp2_with fail
      refine (ct _).mono ?_
      rintro e w3 ⟨rfl, b3⟩
      have hB3 := isBuilder_below hB b3
      have hb3 := hb.trans (b3.mono hz)
      go_wp2_with fail
      refine (writeString_calls w.heap.size w.heap.size _ _ _ hB3 (by rw [str_size, Lib.byteCells_length]; omega) hb3.size).mono ?_
      rintro e w4 ⟨rfl, h4, b4, k4⟩
      rw [strCells_str, ← Lib.byteCells_append] at h4
      go_wp2
      go_roundw
      case rel => exact ⟨k + 1, by omega, by go_num, by rw [unhide Hnew]; exact Or.inr h4, hb3.trans b4⟩
      case measure => simp [intOf]; omega
    · have hd1 : decide ((k : Int) < (parts.length : Int)) = false := by simp; omega
      rw [List.take_of_length_le (by omega)] at hB
      have hR' : pBig dom 1 ++ parts.flatMap pText4 = R := unhide hR
      rw [hR'] at hB
      clear hR'
      go_wp2_with fail
      refine (string_calls w.heap.size w.heap.size R _ hB (by omega)).mono ?_
      rintro e w3 ⟨rfl, _, b3, _⟩
      go_wp2
      go_ret
      exact ⟨rfl, hb.trans b3⟩
/-- Strings in a row of memory that was just made. -/
theorem strsAt_one (w : World) (l : List UInt8) (t : TypeId) : StrsAt (w.alloc (.cells #[.string (str l)] t)) (some ⟨w.heap.size, 0, none⟩) [l] := by
  refine .inr ⟨w.heap.size, 0, rfl, by simp, fun j hj => ?_⟩
  have : j = 0 := by simp at hj; omega
  subst this
  go_simp
theorem digInfo (l : List UInt8) (h : l.length = 32) : (Tryd.prog.info? 30).map (·.size) = some (bc l).size := by rw [bc_size, h]; kernel_rfl
theorem zeroSize (l : List UInt8) (h : l.length = 32) : (bc (List.replicate 32 (0 : UInt8))).size = (bc l).size := by rw [bc_size, bc_size, h]; rfl
theorem noteNil_calls (s : ByteArray) (cs : Array Value) (w : World) :
    Calls Tryd.prog 29 #[.pointer none, .string s, .agg cs] w fun e w' => e = .returned (.tuple #[]) ∧ Below w.heap.size w w' := by
  go_enter Tryd.func29, Tryd.ntmps29
  go_wp2
  exact bodyPost_ret (results_none rfl _ _ _) rfl ⟨rfl, (Below.refl _ _).alloc (Nat.le_refl _) _⟩
set_option maxHeartbeats 2000000 in
set_option maxRecDepth 100000 in
theorem ofNil_calls (dom : Nat) (hd : dom < 256) (parts : List (List UInt8)) (hp : ∀ p ∈ parts, p.length ≤ 100000000) (hn : parts.length ≤ 1000) (a : Option Addr) (cap : Nat) (w : World) (hs : StrsAt w a parts) (tabs : Tabs w) :
    Calls Tryd.prog 15 #[.pointer none, .int .u8 (dom : Int), .slice a parts.length cap] w fun e w' => e = .returned (.agg (bc (pOf dom parts))) ∧ Below w.heap.size w w' := by
  have ci := fun w hs => inputOf_calls dom hd parts hp hn a cap w hs
  have hil := pInput_len dom parts hp hn
  have hol := pOf_length dom parts
  unfold pOf at *
  generalize pInput dom parts = I at *
  have cs := fun g w hs tabs => sum_calls [I] (by simp; omega) (by simp) (some ⟨g, 0, none⟩) 1 w hs tabs
  have hi1 := digInfo (pSum [I]) hol
  have hz1 := zeroSize (pSum [I]) hol
  have ho1 := bc_oneCell (pSum [I])
  generalize pSum [I] = D at *
  have Ci := hide ci
  have Cs := hide cs
  have HS := hide hs
  have HT := hide tabs
  clear ci cs hs tabs hp
  go_enter Tryd.func15, Tryd.ntmps15
  go_wp2_with fail
  have hb0 : Below w.heap.size w (w.alloc (.cells (bc (List.replicate 32 0)) 30)) := (Below.refl _ w).alloc (Nat.le_refl _) _
  refine (unhide Ci _ ((unhide HS).below hb0 (Nat.le_refl _))).mono ?_
  rintro e w1 ⟨rfl, b1⟩
  have q0 : w1.heap[w.heap.size]? = some (.cells (bc (List.replicate 32 0)) 30 (0, 0)) := Below.at b1 (by simp) (al1 _ _)
  have hb1 : Below w.heap.size w w1 := hb0.trans (b1.mono (by simp))
  have z1 : w.heap.size < w1.heap.size := by have := b1.size; simp at this; omega
  clear hb0 b1
  go_wp2_with fail
  refine (unhide Cs _ _ (strsAt_one w1 I _) (((unhide HT).below hb1 (Nat.le_refl _)).below' ((Below.refl _ w1).alloc (Nat.le_refl _) _))).mono ?_
  rintro e w2 ⟨rfl, b2⟩
  have q0' := Below.at b2 (by simp; omega) ((Below.heap_alloc w1 (.cells #[.string (str I)] 9) _ z1).trans q0)
  have hb2 : Below w.heap.size w w2 := (hb1.alloc (by omega) _).trans (b2.mono (by simp; omega))
  have z2 : w.heap.size < w2.heap.size := by have := b2.size; simp at this; omega
  clear hb1 b2 q0 Cs Ci
  go_wp2_with (first
    | (refine wpList_store_row rfl 30 (.tmp 8) (.tmp 14) rfl w2.heap.size _ rfl rfl 30 _ (al1 _ _) hi1 hz1 ho1 ?_)
    | (refine wpList_load_row rfl 30 (.tmp 8) rfl w2.heap.size rfl 30 _ (0, 0) _ (setRow_heap _ _ _ (bc D) _ _ (al1 w2 (.cells (bc (List.replicate 32 0)) 30))) Tryd.underlying30 rfl hi1 ?_))
  have q8 := setRow_heap _ _ _ (bc D) _ _ (al1 w2 (.cells (bc (List.replicate 32 0)) 30))
  have q9 := (setRow_other (w2.alloc (.cells (bc (List.replicate 32 0)) 30)) w2.heap.size w.heap.size (bc D) (by omega)).trans ((Below.heap_alloc w2 _ _ z2).trans q0')
  have hb3 := below_setRow (hb2.alloc (by omega) (.cells (bc (List.replicate 32 0)) 30)) (Nat.le_of_lt z2) (bc D)
  have z3 : w2.heap.size < (w2.alloc (.cells (bc (List.replicate 32 0)) 30)).heap.size := by simp
  refine (noteNil_calls _ _ _).mono ?_
  rintro e w4 ⟨rfl, b4⟩
  have q8' := Below.at b4 (by rw [setRow_size, World.size_alloc]; omega) q8
  have q9' := Below.at b4 (by rw [setRow_size, World.size_alloc]; omega) q9
  have hb4 := hb3.trans (b4.mono (by rw [setRow_size, World.size_alloc]; omega))
  clear q8 q9 hb3 b4
  go_wp2_with (first
    | (refine wpList_load_row rfl 30 (.tmp 8) rfl w2.heap.size rfl 30 _ (0, 0) _ q8' Tryd.underlying30 rfl hi1 ?_)
    | (refine wpList_store_row rfl 30 (.tmp 6) (.tmp 19) rfl w.heap.size _ rfl rfl 30 _ q9' hi1 hz1 ho1 ?_))
  exact bodyPost_ret (results_cell_row rfl _ _ w.heap.size _ _ _ _ rfl (setRow_heap _ _ _ _ _ _ q9') Tryd.underlying30 rfl hi1) rfl ⟨rfl, below_setRow hb4 (Nat.le_refl _) _⟩
end Go.Proofs.YtaclnlmmkcjjeaaDoor

namespace Go.Proofs.YtaclnlmmkcjjeaaDoor
open Go Go.RowKit Go.Maps
set_option linter.unusedSimpArgs false
set_option linter.unusedVariables false

theorem kLaidOut : laidOutB Tryd.prog = true := by kernel_rfl
theorem rowOfD : (30 : TypeId) < Tryd.prog.types.size := of_decide_eq_true (by kernel_rfl)
theorem wideD : (match Tryd.prog.underlying 30 with | some (.array _ _) | some (.struct _) => true | _ => false) = true := by rw [Tryd.underlying30]
set_option maxRecDepth 100000 in
theorem lawD : Keyed Tryd.prog 30 := Keyed.of_law (deep_law_laid kLaidOut (m := 2) (by omega) rowOfD (by kernel_rfl) wideD)
theorem lawS : Keyed Tryd.prog 9 := string_keyed Tryd.underlying9
/-- What the elements of a log's maps are is never asked. -/
def R0 (_ : Value) : Option (DataW Unit × List MemPlace) := some (.agg [], [])
abbrev u0 : DataW Unit := .agg []
theorem keyOf_text (s : List UInt8) (hs : s.length ≤ maxLen) : keyOf Tryd.prog 9 (.string (str s)) = some (.string s) := by
  have := WideMaps.keyOf_string_mk (P := Tryd.prog) Tryd.underlying9 (s := str s) (by rw [str_size]; exact hs)
  rw [str_toList] at this
  exact this
/-- The data of an array of integers, whatever the depth. -/
theorem keyLits_intsK {P : Program} (t e : TypeId) (n D : Nat) (k : IntKind) (hu : P.underlying t = some (.array n e)) (he : P.underlying e = some (.int k)) (hce : P.cellsOf e = 1) (hct : P.cellsOf t = n)
    (zs : List Int) (hl : zs.length = n) (hw : ∀ z ∈ zs, (Lit.int k z).wf = true) : ∃ la, P.keyLits (D + 2) t (zs.map (Value.int k)) = some la := by
  unfold Program.keyLits
  simp only [hu]
  rw [if_pos (by simp [hl, hct])]
  rw [mapM_some _ (fun i => [Lit.int k (zs.getD i 0)]) _ (fun i hi => ?_)]
  · exact ⟨_, rfl⟩
  · have hi' : i < zs.length := by rw [hl]; exact List.mem_range.1 hi
    rw [hce, Nat.mul_one, List.drop_eq_getElem_cons (by simpa using hi')]
    unfold Program.keyLits
    simp only [he]
    have hz : (Lit.int k zs[i]).wf = true := hw _ (List.getElem_mem _)
    simp [hz, hi']
theorem keyOf_dig (d : List UInt8) (hd : d.length = 32) : ∃ l, keyOf Tryd.prog 30 (.agg (bc d)) = some l := by
  have hf : (Value.agg (bc d)).formed Tryd.prog 30 = true := by simp only [Value.formed, Tryd.underlying30, bc_size, hd]; kernel_rfl
  have hk : Tryd.prog.keyType 30 = true := by kernel_rfl
  obtain ⟨la, hla⟩ := keyLits_intsK (P := Tryd.prog) 30 5 32 (Tryd.prog.types.size - 1) .u8 Tryd.underlying30 Tryd.underlying5 (by kernel_rfl) (by kernel_rfl) (d.map fun b => (b.toNat : Int)) (by simpa using hd) (fun z hz => by
    obtain ⟨b, _, rfl⟩ := List.mem_map.1 hz
    have := b.toNat_lt
    simp [Lit.wf, IntKind.min, IntKind.max, IntKind.signed, IntKind.bits]; omega)
  have hts : Tryd.prog.types.size - 1 + 2 = Tryd.prog.types.size + 1 := by
    have h1 : 1 ≤ Tryd.prog.types.size := Nat.lt_of_le_of_lt (Nat.zero_le _) rowOfD
    generalize Tryd.prog.types.size = z at *
    omega
  rw [hts] at hla
  refine ⟨.string (keyBytes la), ?_⟩
  unfold keyOf
  simp only [Tryd.underlying30]
  rw [if_pos (by rw [hk, hf]; rfl)]
  have e : (Value.agg (bc d)).cells.toList = (d.map fun b => (b.toNat : Int)).map (Value.int .u8) := by
    show (bc d).toList = _
    simp [bc, Lib.byteCells]
  rw [e, hla]; rfl
noncomputable def dKey (d : List UInt8) : Lit := (keyOf Tryd.prog 30 (.agg (bc d))).getD (.bool false)
theorem dKey_is (d : List UInt8) (hd : d.length = 32) : keyOf Tryd.prog 30 (.agg (bc d)) = some (dKey d) := by
  obtain ⟨l, hl⟩ := keyOf_dig d hd
  unfold dKey; rw [hl]; rfl
theorem bc_injK {l m : List UInt8} (h : bc l = bc m) : l = m := by
  unfold bc Lib.byteCells at h
  have h2 := congrArg Array.toList h
  simp only at h2
  refine List.map_inj_right ?_ |>.1 h2
  intro a b hab
  injection hab with _ hab
  exact UInt8.toNat.inj (by exact_mod_cast hab)
set_option maxRecDepth 100000 in
theorem dKey_inj (d e : List UInt8) (hd : d.length = 32) (he : e.length = 32) (h : dKey d = dKey e) : d = e := by
  have h1 := dKey_is d hd
  have h2 := dKey_is e he
  rw [← h] at h2
  have := lawD.inj h1 h2
  injection this with this
  exact bc_injK this
/-- What is kept beside a log: all blocks but its own and its maps'. -/
structure But (b : Nat) (ms : Option (Nat × Nat)) (w w' : World) : Prop where
  os : w'.os = w.os
  tape : w'.tape = w.tape
  output : w'.output = w.output
  size : w.heap.size ≤ w'.heap.size
  block : ∀ k, k < w.heap.size → k ≠ b → (∀ m, ms = some m → k ≠ m.1 ∧ k ≠ m.2) → w'.heap[k]? = w.heap[k]?
theorem But.of_below {b : Nat} {ms : Option (Nat × Nat)} {w w' : World} (h : Below w.heap.size w w') : But b ms w w' := ⟨h.os, h.tape, h.output, h.size, fun k hk _ _ => h.block k hk⟩
theorem But.trans {b : Nat} {ms ms' : Option (Nat × Nat)} {w w' w'' : World} (h : But b ms w w') (h' : But b ms' w' w'') (hm : ms' = ms ∨ (ms = none ∧ ∀ m, ms' = some m → w.heap.size ≤ m.1 ∧ w.heap.size ≤ m.2)) : But b ms w w'' := by
  refine ⟨h'.os.trans h.os, h'.tape.trans h.tape, h'.output.trans h.output, Nat.le_trans h.size h'.size, fun k hk hb hms => ?_⟩
  refine (h'.block k (Nat.lt_of_lt_of_le hk h.size) hb fun m hm' => ?_).trans (h.block k hk hb hms)
  rcases hm with rfl | ⟨rfl, hn⟩
  · exact hms m hm'
  · have := hn m hm'; omega
/-- A log of inputs. -/
def LogAt (w : World) (b : Nat) (ms : Option (Nat × Nat)) (ins : List (List UInt8)) : Prop :=
  match ms with
  | none => ins = [] ∧ w.heap[b]? = some (.cells #[.map none, .map none] 91 (0, 0))
  | some (m1, m2) => w.heap[b]? = some (.cells #[.map (some m1), .map (some m2)] 91 (0, 0)) ∧ m1 ≠ m2 ∧ b ≠ m1 ∧ b ≠ m2 ∧
      w.ownsMap Tryd.prog 9 R0 m1 ins.length (setOf u0 (ins.map Lit.string)) ∧ w.ownsMap Tryd.prog 30 R0 m2 ins.length (setOf u0 (ins.map fun s => dKey (pSum [s])))
end Go.Proofs.YtaclnlmmkcjjeaaDoor

namespace Go.Proofs.YtaclnlmmkcjjeaaDoor
open Go Go.RowKit Go.Maps
open Go.WideElems (Fit rd rg pl rd_val)
open Go.ChangeMaps
set_option linter.unusedSimpArgs false
set_option linter.unusedVariables false

/-- How a list that stands in a map reads: as its own value. -/
def RV : Value → Option (DataW Unit × List MemPlace)
  | .slice none n c => some (.agg [.lit (.int .i64 (n : Int)), .lit (.int .i64 (c : Int))], [])
  | .slice (some ⟨g, o, none⟩) n c => some (.agg [.lit (.int .i64 (g : Int)), .lit (.int .i64 (o : Int)), .lit (.int .i64 (n : Int)), .lit (.int .i64 (c : Int))], [])
  | _ => none
abbrev nilD : DataW Unit := .agg [.lit (.int .i64 0), .lit (.int .i64 0)]
theorem RV_inj {v v' : Value} {z z' : DataW Unit × List MemPlace} (h : RV v = some z) (h' : RV v' = some z') (e : z.1 = z'.1) : v = v' := by
  unfold RV at h h'
  split at h <;> split at h' <;> simp_all <;> (subst h; subst h'; simp_all) <;> omega
theorem RV_places {v : Value} {z : DataW Unit × List MemPlace} (h : RV v = some z) : z.2 = [] := by
  unfold RV at h
  split at h
  · cases h; rfl
  · cases h; rfl
  · cases h
theorem RV_nil : RV (.slice none 0 0) = some (nilD, []) := rfl
theorem RV_some (g n c : Nat) : ∃ d, RV (.slice (some ⟨g, 0, none⟩) n c) = some (d, []) := ⟨_, rfl⟩

/-- The inputs of one digest. -/
def grp (d : List UInt8) (ins : List (List UInt8)) : List (List UInt8) := ins.filter fun s => decide (pSum [s] = d)
/-- Noted once. -/
def rnoted (s : List UInt8) (ins : List (List UInt8)) : List (List UInt8) := if s ∈ ins then ins else ins ++ [s]
theorem grp_same (s d : List UInt8) (ins : List (List UInt8)) (h : pSum [s] = d) : grp d (ins ++ [s]) = grp d ins ++ [s] := by
  simp [grp, List.filter_append, h]
theorem grp_other (s d : List UInt8) (ins : List (List UInt8)) (h : pSum [s] ≠ d) : grp d (ins ++ [s]) = grp d ins := by
  simp [grp, List.filter_append, h]
theorem mem_grp (s : List UInt8) (ins : List (List UInt8)) : s ∈ grp (pSum [s]) ins ↔ s ∈ ins := by simp [grp]
theorem grp_le (d : List UInt8) (ins : List (List UInt8)) : (grp d ins).length ≤ ins.length := List.length_filter_le _ _
/-- How many digests. -/
def cntR : List (List UInt8) → Nat
  | [] => 0
  | s :: r => if r.any (fun t => decide (pSum [t] = pSum [s])) then cntR r else cntR r + 1
def cnt (ins : List (List UInt8)) : Nat := cntR ins.reverse
theorem cntR_le : ∀ l : List (List UInt8), cntR l ≤ l.length
  | [] => Nat.le_refl _
  | s :: r => by
    have := cntR_le r
    unfold cntR
    split <;> simp <;> omega
theorem cntR_lt : ∀ (l : List (List UInt8)) (s t : List UInt8), s ∈ l → t ∈ l → s ≠ t → pSum [s] = pSum [t] → cntR l < l.length
  | [], s, t, hs, _, _, _ => by cases hs
  | x :: r, s, t, hs, ht, hne, he => by
    have hle := cntR_le r
    unfold cntR
    by_cases hx : r.any (fun t => decide (pSum [t] = pSum [x])) = true
    · rw [if_pos hx]; simp; omega
    · rw [if_neg hx]
      have no : ∀ y ∈ r, pSum [y] ≠ pSum [x] := fun y hy e => hx (List.any_eq_true.2 ⟨y, hy, by simpa using e⟩)
      rcases List.mem_cons.1 hs with rfl | hs'
      · rcases List.mem_cons.1 ht with rfl | ht'
        · exact absurd rfl hne
        · exact absurd he.symm (no t ht')
      · rcases List.mem_cons.1 ht with rfl | ht'
        · exact absurd he (no s hs')
        · have := cntR_lt r s t hs' ht' hne he
          simp; omega
theorem cnt_lt (ins : List (List UInt8)) (s t : List UInt8) (hs : s ∈ ins) (ht : t ∈ ins) (hne : s ≠ t) (he : pSum [s] = pSum [t]) : cnt ins < ins.length := by
  have := cntR_lt ins.reverse s t (by simpa using hs) (by simpa using ht) hne he
  simpa [cnt] using this
theorem cnt_snoc (ins : List (List UInt8)) (s : List UInt8) : cnt (ins ++ [s]) = if decide (grp (pSum [s]) ins ≠ []) = true then cnt ins else cnt ins + 1 := by
  have e : ins.reverse.any (fun t => decide (pSum [t] = pSum [s])) = decide (grp (pSum [s]) ins ≠ []) := by
    rw [List.any_reverse]
    by_cases h : ins.any (fun t => decide (pSum [t] = pSum [s])) = true
    · rw [h]
      obtain ⟨y, hy, hyy⟩ := List.any_eq_true.1 h
      symm; simp only [decide_eq_true_eq]
      intro h0
      have : y ∈ grp (pSum [s]) ins := by simp [grp, hy]; simpa using hyy
      rw [h0] at this; cases this
    · have h' : ins.any (fun t => decide (pSum [t] = pSum [s])) = false := by simpa using h
      rw [h']
      symm; simp only [decide_eq_false_iff_not, Classical.not_not]
      refine List.filter_eq_nil_iff.2 fun y hy => ?_
      have := List.any_eq_false.1 h' y hy
      simpa using this
  unfold cnt
  rw [List.reverse_append, List.reverse_cons, List.reverse_nil, List.nil_append, List.singleton_append, cntR, e]

theorem owns_at {base n sz : Nat} {w w' : World} {t : TypeId} {v : Value} {xs : List Value} (h : w.ownsRow base t sz v n xs) (hk : ∀ k, v.ownBlock = some k → w'.heap[k]? = w.heap[k]?) : w'.ownsRow base t sz v n xs := by
  refine ⟨h.1, ?_⟩
  rcases h.2 with h2 | ⟨g, cap, cur, rfl, hB, hg, rest⟩
  · exact .inl h2
  · exact .inr ⟨g, cap, cur, rfl, hB, (hk g rfl).trans hg, rest⟩
theorem map_at {k : TypeId} {R : Value → Option (DataW Unit × List MemPlace)} {b n : Nat} {D : DataW Unit} {P : Program} {w w' : World} (h : w.ownsMap P k R b n D) (hb : w'.heap[b]? = w.heap[b]?) : w'.ownsMap P k R b n D := by
  obtain ⟨es, c, h1, h2⟩ := h
  exact ⟨es, c, hb.trans h1, h2⟩
theorem owns_room {base n sz : Nat} {w : World} {t : TypeId} {v : Value} {xs : List Value} (h : w.ownsRow base t sz v n xs) : v = .slice none 0 0 ∨ ∃ g c, v = .slice (some ⟨g, 0, none⟩) n c := by
  rcases h.2 with ⟨rfl, _⟩ | ⟨g, cap, cur, rfl, _⟩
  · exact .inl rfl
  · exact .inr ⟨g, cap, rfl⟩
theorem owns_RV {base n sz : Nat} {w : World} {t : TypeId} {v : Value} {xs : List Value} (h : w.ownsRow base t sz v n xs) : ∃ d, RV v = some (d, []) := by
  rcases owns_room h with rfl | ⟨g, c, rfl⟩
  · exact ⟨_, rfl⟩
  · exact ⟨_, rfl⟩

structure RLog (w : World) (b : Nat) (S : Nat → Prop) (ins : List (List UInt8)) (base m : Nat) (iv : Value) (D : DataW Unit) (val : List UInt8 → Value) : Prop where
  obj : w.heap[b]? = some (.cells #[iv, .map (some m)] 42 (0, 0))
  ne : b ≠ m
  lob : b < base
  lom : m < base
  bs : base ≤ w.heap.size
  inp : w.ownsRow base 9 1 iv ins.length (ins.map fun s => .string (str s))
  map : w.ownsMap Tryd.prog 30 RV m ins.length D
  look : ∀ d, d.length = 32 → RV (val d) = some (D.atKey (dKey d) nilD, [])
  vals : ∀ d, d.length = 32 → w.ownsRow base 9 1 (val d) (grp d ins).length ((grp d ins).map fun s => .string (str s))
  apart : ∀ d e, d.length = 32 → e.length = 32 → d ≠ e → ∀ k, (val d).ownBlock = some k → (val e).ownBlock ≠ some k
  away : ∀ d, d.length = 32 → ∀ k, (val d).ownBlock = some k → iv.ownBlock ≠ some k
  has : ∀ d, d.length = 32 → has D (dKey d) = decide (grp d ins ≠ [])
  size : Maps.size D = cnt ins
  myb : S b
  mym : S m
  myi : ∀ k, iv.ownBlock = some k → S k
  myv : ∀ d, d.length = 32 → ∀ k, (val d).ownBlock = some k → S k
  old : ∀ k, S k → k < w.heap.size
def RLogAt (w : World) (b : Nat) (S : Nat → Prop) (ins : List (List UInt8)) : Prop := ∃ base m iv D val, RLog w b S ins base m iv D val
theorem RLog.kept {w w' : World} {b : Nat} {S : Nat → Prop} {ins : List (List UInt8)} {base m : Nat} {iv : Value} {D : DataW Unit} {val : List UInt8 → Value} (h : RLog w b S ins base m iv D val) (hk : ∀ k, S k → w'.heap[k]? = w.heap[k]?) (hs : w.heap.size ≤ w'.heap.size) : RLog w' b S ins base m iv D val :=
  ⟨(hk b h.myb).trans h.obj, h.ne, h.lob, h.lom, Nat.le_trans h.bs hs, owns_at h.inp (fun k e => hk k (h.myi k e)), map_at h.map (hk m h.mym), h.look, fun d hd => owns_at (h.vals d hd) (fun k e => hk k (h.myv d hd k e)), h.apart, h.away, h.has, h.size, h.myb, h.mym, h.myi, h.myv, fun k hS => Nat.lt_of_lt_of_le (h.old k hS) hs⟩
theorem RLogAt.kept {w w' : World} {b : Nat} {S : Nat → Prop} {ins : List (List UInt8)} (h : RLogAt w b S ins) (hk : ∀ k, S k → w'.heap[k]? = w.heap[k]?) (hs : w.heap.size ≤ w'.heap.size) : RLogAt w' b S ins := by
  obtain ⟨base, m, iv, D, val, h⟩ := h
  exact ⟨base, m, iv, D, val, h.kept hk hs⟩
theorem RLogAt.old {w : World} {b : Nat} {S : Nat → Prop} {ins : List (List UInt8)} (h : RLogAt w b S ins) : ∀ k, S k → k < w.heap.size := by
  obtain ⟨base, m, iv, D, val, h⟩ := h
  exact h.old
theorem RLogAt.mine {w : World} {b : Nat} {S : Nat → Prop} {ins : List (List UInt8)} (h : RLogAt w b S ins) : S b := by
  obtain ⟨base, m, iv, D, val, h⟩ := h
  exact h.myb
theorem RLog.below {w w' : World} {b : Nat} {S : Nat → Prop} {ins : List (List UInt8)} {base m : Nat} {iv : Value} {D : DataW Unit} {val : List UInt8 → Value} (h : RLog w b S ins base m iv D val) (hb : Below w.heap.size w w') : RLog w' b S ins base m iv D val := h.kept (fun k hS => hb.block k (h.old k hS)) hb.size
theorem RLogAt.below {w w' : World} {b : Nat} {S : Nat → Prop} {ins : List (List UInt8)} (h : RLogAt w b S ins) (hb : Below w.heap.size w w') : RLogAt w' b S ins := h.kept (fun k hS => hb.block k (h.old k hS)) hb.size
/-- What is kept beside a log: all blocks but its own. -/
structure RBut (S : Nat → Prop) (w w' : World) : Prop where
  os : w'.os = w.os
  tape : w'.tape = w.tape
  output : w'.output = w.output
  size : w.heap.size ≤ w'.heap.size
  block : ∀ k, k < w.heap.size → ¬ S k → w'.heap[k]? = w.heap[k]?
/-- A step that a log goes through: what it holds behind it, what is kept. -/
def RStep (b : Nat) (S : Nat → Prop) (ins : List (List UInt8)) (w w' : World) : Prop := ∃ S', RLogAt w' b S' ins ∧ RBut S w w' ∧ ∀ k, S' k → S k ∨ w.heap.size ≤ k
theorem RBut.refl (S : Nat → Prop) (w : World) : RBut S w w := ⟨rfl, rfl, rfl, Nat.le_refl _, fun _ _ _ => rfl⟩
theorem RBut.trans {S S' : Nat → Prop} {w w' w'' : World} (h : RBut S w w') (h' : RBut S' w' w'') (hs : ∀ k, S' k → S k ∨ w.heap.size ≤ k) : RBut S w w'' :=
  ⟨h'.os.trans h.os, h'.tape.trans h.tape, h'.output.trans h.output, Nat.le_trans h.size h'.size, fun k hk hS => (h'.block k (Nat.lt_of_lt_of_le hk h.size) (fun h1 => (hs k h1).elim hS (fun h2 => by omega))).trans (h.block k hk hS)⟩
theorem RBut.of_below {S : Nat → Prop} {w w' : World} (h : Below w.heap.size w w') : RBut S w w' := ⟨h.os, h.tape, h.output, h.size, fun k hk _ => h.block k hk⟩
theorem RStep.same {b : Nat} {S : Nat → Prop} {ins : List (List UInt8)} {w w' : World} (h : RLogAt w b S ins) (hb : Below w.heap.size w w') : RStep b S ins w w' := ⟨S, h.below hb, RBut.of_below hb, fun k h => .inl h⟩
theorem RStep.ahead {b : Nat} {S : Nat → Prop} {ins : List (List UInt8)} {w w' w'' : World} (hb : Below w.heap.size w w') (h : RStep b S ins w' w'') : RStep b S ins w w'' := by
  obtain ⟨S', h1, h2, h3⟩ := h
  exact ⟨S', h1, (RBut.of_below hb).trans h2 (fun k hk => .inl hk), fun k hk => (h3 k hk).imp_right (Nat.le_trans hb.size)⟩
/-- Behind it what is no part of the log, and newer than the call, may turn. -/
theorem RStep.close {b : Nat} {S : Nat → Prop} {ins : List (List UInt8)} {w w3 w4 w5 : World} (hb : Below w.heap.size w w3) (h : RStep b S ins w3 w4) (hS : ∀ k, S k → k < w.heap.size) (ho : w5.os = w4.os) (ht : w5.tape = w4.tape) (hp : w5.output = w4.output) (hs : w4.heap.size ≤ w5.heap.size)
    (hk : ∀ k, k < w4.heap.size → k < w.heap.size ∨ w3.heap.size ≤ k → w5.heap[k]? = w4.heap[k]?) : RStep b S ins w w5 := by
  obtain ⟨S', h1, h2, h3⟩ := h
  have hz := hb.size
  refine ⟨S', h1.kept (fun k hk' => hk k (h1.old k hk') ((h3 k hk').imp_left (hS k))) hs, ⟨ho.trans (h2.os.trans hb.os), ht.trans (h2.tape.trans hb.tape), hp.trans (h2.output.trans hb.output), Nat.le_trans hz (Nat.le_trans h2.size hs), fun k hk' hn => ?_⟩, fun k hk' => (h3 k hk').imp_right (Nat.le_trans hz)⟩
  rw [hk k (Nat.lt_of_lt_of_le hk' (Nat.le_trans hz h2.size)) (.inl hk'), h2.block k (Nat.lt_of_lt_of_le hk' hz) hn, hb.block k hk']
theorem RStep.trans {b : Nat} {S S' : Nat → Prop} {ins : List (List UInt8)} {w w' w'' : World} (h2 : RBut S w w') (h3 : ∀ k, S' k → S k ∨ w.heap.size ≤ k) (h : RStep b S' ins w' w'') : RStep b S ins w w'' := by
  obtain ⟨S'', k1, k2, k3⟩ := h
  exact ⟨S'', k1, h2.trans k2 h3, fun k hk => (k3 k hk).elim (h3 k) (fun hh => .inr (Nat.le_trans h2.size hh))⟩
theorem setRow_step {w w4 : World} {b : Nat} {S : Nat → Prop} {ins : List (List UInt8)} {w3 : World} (hb : Below w.heap.size w w3) (h : RStep b S ins w3 w4) (hS : ∀ k, S k → k < w.heap.size) (N : Nat) (hN : w.heap.size ≤ N) (hN3 : N < w3.heap.size) (cs : Array Value) : RStep b S ins w (w4.setRow N cs) :=
  h.close hb hS rfl rfl rfl (by rw [setRow_size]; exact Nat.le_refl _) (fun k _ hk => setRow_other _ _ _ _ (by omega))

theorem key_one : ∀ (l : List MapEntry), (l.map (·.key)).Nodup → ∀ x ∈ l, ∀ y ∈ l, x.key = y.key → x = y
  | [], _, x, hx, _, _, _ => by cases hx
  | a :: r, hn, x, hx, y, hy, e => by
    simp only [List.map_cons, List.nodup_cons] at hn
    rcases List.mem_cons.1 hx with rfl | hx' <;> rcases List.mem_cons.1 hy with rfl | hy'
    · rfl
    · exact absurd (List.mem_map.2 ⟨y, hy', e.symm⟩) hn.1
    · exact absurd (List.mem_map.2 ⟨x, hx', e⟩) hn.1
    · exact key_one r hn.2 x hx' y hy' e
/-- m[k], to be stored at again. -/
theorem map_entry {P : Program} {t k e : TypeId} {R : Value → Option (DataW Unit × List MemPlace)} {b n : Nat} {D : DataW Unit} {w : World} (h : w.ownsMap P k R b n D) (K : WideMaps.KeyLaw P k) (ht : P.underlying t = some (.map k e)) {z : Value} (hz : ∀ u : World, (zeroValue e).run P u = .ok z u) {zd : DataW Unit} (hzd : R z = some (zd, []))
    (hn : n < maxLen) {key : Value} {kl : Lit} (hkey : keyOf P k key = some kl) :
    ∃ (v0 : Value) (st : Value) (es1 : Array MapEntry) (c1 : Nat), (Instr.mapEntry t (.map (some b)) key).run P w = .ok (.tuple #[v0, st]) (setBlock w b (.map es1 c1)) ∧ (∃ ps, R v0 = some (D.atKey kl zd, ps)) ∧
      ∀ (w2 : World) (val : Value) (d : DataW Unit), R val = some (d, []) → w2.heap[b]? = some (.map es1 c1) → ∃ es' c', (Instr.entryStore t (.map (some b)) st val).run P w2 = .ok () (setBlock w2 b (.map es' c')) ∧
        ∀ w3 : World, w3.heap[b]? = some (.map es' c') → w3.ownsMap P k R b (n + 1) (D.put kl d) := by
  have h0 := h
  obtain ⟨es, clock, hb, F, hs, rfl⟩ := h
  have K' := Keyed.of_law K
  obtain ⟨v0, st, es1, c1, hr, hwho, hst⟩ := WideElems.entry_then_store K ht hz hb F hkey
  refine ⟨v0, goInt st, es1, c1, hr, ?_, fun w2 val d hv hw2 => ?_⟩
  · rcases Maps.fit_look false K' ht (hz w) hb F hkey with ⟨hrun, hno, hat⟩ | ⟨e0, y, hm0, h3, hrun, hR, hat, _⟩
    · rcases hwho with ⟨e1, he1, hk1, _⟩ | ⟨_, rfl⟩
      · exact absurd hk1 (hno e1 he1)
      · exact ⟨[], by rw [hat zd]; exact hzd⟩
    · rcases hwho with ⟨e1, he1, hk1, rfl⟩ | ⟨hno, _⟩
      · have e2 := key_one es.toList F.stamped.2.2 e1 he1 e0 hm0 (hk1.trans h3.symm)
        subst e2
        exact ⟨y.2, by rw [hat zd]; exact hR⟩
      · exact absurd h3 (hno e0 hm0)
  · obtain ⟨es', c', hr2, hr3⟩ := hst w2 val hw2
    obtain ⟨w', hu, ho, _⟩ := h0.update K' ht hn hkey hv
    refine ⟨es', c', hr2, fun w3 hw3 => map_at ho ?_⟩
    rw [hr3] at hu
    simp only [Result.ok.injEq, true_and] at hu
    rw [hw3, ← hu]
    exact (heap_setBlock_same hb _).symm
end Go.Proofs.YtaclnlmmkcjjeaaDoor
