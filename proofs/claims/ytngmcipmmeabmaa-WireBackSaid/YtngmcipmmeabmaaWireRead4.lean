/-
  WHAT A READER's Digests ANSWERS: the digests' bytes in a new row.
-/
import Derived.Test.YtngmcipmmeabmaaWireRead3
import Derived.StillTailTactics
namespace Go.Proofs.Ytngmcipmmeabmaa
open Go.RowKit
set_option linter.unusedSimpArgs false
set_option linter.unusedVariables false

theorem repl_getD (n j : Nat) (h : j < n) : (List.replicate n (0 : UInt8)).getD j 0 = 0 := by
  rw [List.getD_eq_getElem?_getD, List.getElem?_replicate, if_pos h]; rfl
/-- A new list of digests, all noughts. -/
theorem make_digests (n : Nat) (h : n ≤ 4294967296) (w : World) : (Instr.makeSlice 25 (.int .i64 (n : Int)) (.int .i64 (n : Int))).run Try.prog w = .ok (.slice (some ⟨w.heap.size, 0, none⟩) n n) (w.alloc (.cells (bc (List.replicate (32 * n) 0)) 24)) := by
  obtain ⟨i, hi⟩ : ∃ i, Try.prog.info? 24 = some i := by
    cases hq : Try.prog.info? 24 with
    | none => exact absurd hq (by rw [show Try.prog.info? 24 = some ((Try.prog.info? 24).getD default) by kernel_rfl]; simp)
    | some i => exact ⟨i, rfl⟩
  have e : (Try.prog.info? 24).map (fun i => (i.zero, i.size, i.bytes)) = some (some (.agg (bc (List.replicate 32 0))), 32, 32) := by kernel_rfl
  rw [hi] at e
  simp only [Option.map_some, Option.some.injEq, Prod.mk.injEq] at e
  obtain ⟨e1, e2, e3⟩ := e
  have := run_make (P := Try.prog) w 25 24 i (.agg (bc (List.replicate 32 0))) Try.underlying25 hi e1 .i64 .i64 n n (by omega) (by omega) (by rw [e3]; omega) (by omega)
  rw [this, e2]
  simp only [Int.toNat_natCast]
  rw [show (Value.agg (bc (List.replicate 32 0))).cells = bc (List.replicate 32 0) from rfl]
  have em : madeCells (bc (List.replicate 32 0)) (n * 32) = bc (List.replicate (32 * n) 0) := by
    apply Array.ext
    · simp [size_madeCells]; omega
    · intro j h1 h2
      have hz : ∀ r, r < 32 → (bc (List.replicate 32 0))[r]! = Value.int .u8 0 := fun r hr => by
        have hb := bc_at (List.replicate 32 0) r (by simpa using hr)
        rw [getElem!_def, hb, repl_getD 32 r hr]; rfl
      have h2' : j < 32 * n := by simpa using h2
      have hb2 := bc_at (List.replicate (32 * n) 0) j (by simpa using h2')
      have e2 : (bc (List.replicate (32 * n) 0))[j] = Value.int .u8 0 := by
        rw [Array.getElem?_eq_getElem h2] at hb2
        rw [Option.some.inj hb2, repl_getD (32 * n) j h2']; rfl
      rw [e2]
      simp only [madeCells, Array.getElem_map, Array.getElem_range]
      exact hz _ (by rw [bc_size, List.length_replicate]; omega)
  rw [em]

theorem splice_list (l : List UInt8) (s j k : Nat) (hl : l.length = 32 * k) (hs : s = 32 * j) (hj : j < k) :
    (l.take (32 * j) ++ List.replicate (32 * (k - j)) 0).take (j * 32) ++ (l.drop s).take 32 ++ (l.take (32 * j) ++ List.replicate (32 * (k - j)) 0).drop (j * 32 + 32) = l.take (32 * (j + 1)) ++ List.replicate (32 * (k - (j + 1))) 0 := by
  have h1 : (l.take (32 * j)).length = 32 * j := by rw [List.length_take]; omega
  have e1 : (l.take (32 * j) ++ List.replicate (32 * (k - j)) 0).take (j * 32) = l.take (32 * j) := by
    rw [List.take_append_of_le_length (by omega), List.take_of_length_le (by omega)]
  have e2 : (l.take (32 * j) ++ List.replicate (32 * (k - j)) (0 : UInt8)).drop (j * 32 + 32) = List.replicate (32 * (k - (j + 1))) 0 := by
    rw [List.drop_append, h1, List.drop_of_length_le (by omega), List.drop_replicate, List.nil_append]
    congr 1; omega
  rw [e1, e2, hs, show 32 * (j + 1) = 32 * j + 32 by omega, List.take_add]
set_option maxHeartbeats 1000000 in
set_option maxRecDepth 100000 in
theorem rdigests_of (p : Value) (most : Int) (m k : Nat) (hm : m < 4294967296) (l : List UInt8) (hl : l.length = 32 * k) (hk : k ≤ m) (R1 R2 : World → Prop) (w : World)
    (h1 : Calls Try.prog 39 #[p, .int .i64 most] w fun e w1 => e = .returned (.int .i64 (m : Int)) ∧ R1 w1)
    (h2 : ∀ w1, R1 w1 → Calls Try.prog 38 #[p, .int .i64 ((32 * m : Nat) : Int)] w1 fun e w2 => e = .returned (.string (str l)) ∧ R2 w2) :
    Calls Try.prog 31 #[p, .int .i64 most] w fun e w' => ∃ w2, e = .returned (.slice (some ⟨w2.heap.size, 0, none⟩) k k) ∧ R2 w2 ∧ Below w2.heap.size w2 w' ∧ w'.heap[w2.heap.size]? = some (.cells (bc l) 24 (0, 0)) := by
  have H1 := hide h1
  have H2 := hide h2
  have mk := make_digests k (by omega)
  have em : (32 : Int) * (m : Int) = ((32 * m : Nat) : Int) := by omega
  generalize hM : 32 * m = M at *
  have hMb : M < 137438953472 := by omega
  clear h1 h2 hM
  go_enter Try.func31, Try.ntmps31
  go_wp2_with fail
  refine (unhide H1).mono ?_
  rintro e w1 ⟨rfl, hr1⟩
  go_wp2_with fail
  refine (unhide H2 _ hr1).mono ?_
  rintro e w2 ⟨rfl, hr2⟩
  have eq : (l.length : Int) / 32 = (k : Int) := by omega
  have Hl := hide hl
  clear hl em
  go_wp2
  go_loopw [20] (fun i wr => ∃ j : Nat, j ≤ k ∧ i = .int .i64 (j : Int) ∧ Below w2.heap.size w2 wr ∧ wr.heap[w2.heap.size]? = some (.cells (bc (l.take (32 * j) ++ List.replicate (32 * (k - j)) 0)) 24 (0, 0))) (fun i _ => k - (intOf i).toNat)
  case atStart =>
    refine ⟨0, by omega, rfl, (Below.refl _ _).alloc (Nat.le_refl _) _, ?_⟩
    rw [al1]; simp
  case round =>
    obtain ⟨j, hj, rfl, hb, q⟩ := hrel
    by_cases hlt : j < k
    · have hd : decide (j < k) = true := by simpa using hlt
      have b1 : (j : Int) < (k : Int) := by omega
      have hll := unhide Hl
      have ed := drop_str l (32 * j) _ rfl
      obtain ⟨s, hs, es⟩ : ∃ s : Nat, Hid (32 * j = s) ∧ IntKind.i64.wrap ((32 : Int) * (j : Int)) = (s : Int) := ⟨_, rfl, by rw [wi64 _ (by omega) (by omega)]; omega⟩
      have b2 : (s : Int) ≤ (l.length : Int) := by have := unhide hs; omega
      have b3 : s + 32 ≤ l.length := by have := unhide hs; omega
      rw [unhide hs] at ed
      clear hll mk
      go_wp2
      refine wp_region_still_tail 8 mixed (by kernel_rfl) ?_
      simp only [List.take_succ_cons, List.take_zero, List.drop_succ_cons, List.drop_zero]
      iterate 8 still_step
      refine wpStill_nil ?_
      show wpList _ _ _ _ _ wr.drew
      have hcl : (l.take (32 * j) ++ List.replicate (32 * (k - j)) 0).length = l.length := by
        have := unhide Hl
        rw [List.length_append, List.length_take, List.length_replicate]; omega
      refine wpList_copy_str rfl (.tmp 26) (.tmp 30) 57 9 rfl 5 Try.underlying57 (by kernel_rfl) w2.heap.size (j * 32) 32 32 rfl (l.drop s) rfl (l.take (32 * j) ++ List.replicate (32 * (k - j)) 0) 24 q 32 (by show _ = min _ _; rw [List.length_drop]; omega) (by rw [hcl]; have := unhide hs; omega) ?_
      rw [splice_list l s j k (unhide Hl) (unhide hs).symm hlt]
      have hb3 : Below w2.heap.size w2 (wr.drew.setRow w2.heap.size (bc (l.take (32 * (j + 1)) ++ List.replicate (32 * (k - (j + 1))) 0))) := below_setRow hb.drew (Nat.le_refl _) _
      have q3 := setRow_heap wr.drew w2.heap.size _ (bc (l.take (32 * (j + 1)) ++ List.replicate (32 * (k - (j + 1))) 0)) _ _ q
      generalize wr.drew.setRow w2.heap.size (bc (l.take (32 * (j + 1)) ++ List.replicate (32 * (k - (j + 1))) 0)) = w3 at *
      have Q3 := hide q3
      clear hcl q q3 ed b2 b3
      go_wp2
      go_roundw
      case rel => exact ⟨j + 1, by omega, by go_num, hb3, unhide Q3⟩
      case measure => simp [intOf]; omega
    · have hd : decide (j < k) = false := by simpa using hlt
      obtain rfl : j = k := by omega
      have q' : wr.heap[w2.heap.size]? = some (.cells (bc l) 24 (0, 0)) := by
        rw [q, ← unhide Hl, List.take_length]; simp
      have Q' := hide q'
      clear q q' mk
      go_wp2
      go_ret
      exact ⟨w2, rfl, hr2, hb, unhide Q'⟩
end Go.Proofs.Ytngmcipmmeabmaa
