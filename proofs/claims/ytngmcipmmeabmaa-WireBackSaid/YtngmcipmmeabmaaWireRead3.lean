/-
  WHAT A READER's Digest, Digests, Sig ANSWER.
-/
import Derived.Test.YtngmcipmmeabmaaWireRead2
import Derived.Test.YtngmcipmmeabmaaCopyStr
import Derived.Deep.RegionHeld3
import Derived.Deep.DeepCutAuto
namespace Go.Proofs.Ytngmcipmmeabmaa
open Go.RowKit
set_option linter.unusedSimpArgs false
set_option linter.unusedVariables false

/-- A digest of the bytes that are there. -/
def pad32 (l : List UInt8) : List UInt8 := l ++ List.replicate (32 - l.length) 0
theorem pad32_length (l : List UInt8) (h : l.length ≤ 32) : (pad32 l).length = 32 := by simp [pad32]; omega

set_option maxHeartbeats 1000000 in
set_option maxRecDepth 100000 in
theorem rdigest_of (p : Value) (l : List UInt8) (hl : l.length ≤ 32) (Post : World → World → Prop) (w : World)
    (ht : ∀ w1, Below w.heap.size w w1 → Calls Try.prog 38 #[p, .int .i64 32] w1 fun e w2 => e = .returned (.string (str l)) ∧ Post w1 w2)
    (hP : ∀ w1 w2, Post w1 w2 → ∀ k o, w.heap.size ≤ k → w1.heap[k]? = some o → w2.heap[k]? = some o) :
    Calls Try.prog 23 #[p] w fun e w' => e = .returned (.agg (bc (pad32 l))) ∧ ∃ w1 w2, Below w.heap.size w w1 ∧ Post w1 w2 ∧ Below w.heap.size w2 w' := by
  have q0 := (al2 w (.cells (bc (List.replicate 32 0)) 24) (.cells (bc (List.replicate 32 0)) 24)).1
  have q1 := (al2 w (.cells (bc (List.replicate 32 0)) 24) (.cells (bc (List.replicate 32 0)) 24)).2
  have hb2 := bel2 w (.cells (bc (List.replicate 32 0)) 24) (.cells (bc (List.replicate 32 0)) 24)
  have ht2 : ∀ w1, Below ((w.alloc (.cells (bc (List.replicate 32 0)) 24)).alloc (.cells (bc (List.replicate 32 0)) 24)).heap.size ((w.alloc (.cells (bc (List.replicate 32 0)) 24)).alloc (.cells (bc (List.replicate 32 0)) 24)) w1 → Calls Try.prog 38 #[p, .int .i64 32] w1 fun e w2 => e = .returned (.string (str l)) ∧ (∃ w1, Below w.heap.size w w1 ∧ Post w1 w2) ∧ w2.heap[w.heap.size]? = some (.cells (bc (List.replicate 32 0)) 24 (0, 0)) ∧ w2.heap[w.heap.size + 1]? = some (.cells (bc (List.replicate 32 0)) 24 (0, 0)) := fun w1 hb1 => by
    have hbw : Below w.heap.size w w1 := hb2.trans (hb1.mono hb2.size)
    refine (ht w1 hbw).mono ?_
    rintro e w2 ⟨rfl, hp⟩
    exact ⟨rfl, ⟨w1, hbw, hp⟩, hP _ _ hp _ _ (Nat.le_refl _) (Below.at hb1 (by simp; omega) q0), hP _ _ hp _ _ (by omega) (Below.at hb1 (by simp) q1)⟩
  have Ht := hide ht2
  clear ht hP q0 q1 hb2 ht2
  have hsz : List.replicate 32 (0 : UInt8) = List.replicate 32 0 := rfl
  go_enter Try.func23, Try.ntmps23
  go_wp2
  change Code.wp _ _ _ _ ((w.alloc (.cells (bc (List.replicate 32 0)) 24)).alloc (.cells (bc (List.replicate 32 0)) 24))
  generalize hW : (w.alloc (.cells (bc (List.replicate 32 0)) 24)).alloc (.cells (bc (List.replicate 32 0)) 24) = W at *
  clear hW
  go_region_held3 (fun _ => True) (exact trivial)
    (first
      | (go_at_call 38; refine (unhide Ht _ ?_).mono ?_; (repeat' (first | with_reducible assumption | with_reducible exact Below.refl _ _ | with_reducible refine Below.drew ?_)); rintro e w2 ⟨rfl, ⟨w1, hb1, hp1⟩, r0, r1⟩)
      | (refine step_copy_str rfl (.tmp 4) (.tmp 6) 57 9 rfl 5 Try.underlying57 (by kernel_rfl) (w.heap.size + 1) 0 32 32 (by simp [Act.eval, Act.put]) l (by simp [Act.eval, Act.put]) (List.replicate 32 0) 24 r1 l.length (by show _ = min _ _; omega) (by simp; omega) ?_))
  all_goals
    have hnew : List.take 0 (List.replicate 32 (0 : UInt8)) ++ List.take l.length l ++ List.drop (0 + l.length) (List.replicate 32 0) = pad32 l := by
      rw [List.drop_replicate, List.take_zero, List.take_length, Nat.zero_add]; rfl
    rw [hnew]
    have hlen := pad32_length l hl
    generalize hd : pad32 l = d at *
    have Hd := hide hd
    clear hd
    have q1 := setRow_heap w2 (w.heap.size + 1) _ (bc d) _ _ r1
    have q0 : (w2.setRow (w.heap.size + 1) (bc d)).heap[w.heap.size]? = _ := (setRow_other w2 (w.heap.size + 1) w.heap.size (bc d) (by omega)).trans r0
    have hbd : Below w.heap.size w2 (w2.setRow (w.heap.size + 1) (bc d)) := below_setRow (Below.refl _ _) (by omega) _
    generalize w2.setRow (w.heap.size + 1) (bc d) = w3 at *
    have hil : (Try.prog.info? 24).map (·.size) = some (bc d).size := by rw [bc_size, hlen]; kernel_rfl
    have hsz2 : (bc (List.replicate 32 (0 : UInt8))).size = (bc d).size := by rw [bc_size, bc_size, hlen]; rfl
    have ho1 := bc_oneCell d
    clear hnew hlen r0 r1
    go_wp2_with (first
      | (refine wpList_load_row rfl 24 (.tmp 3) rfl (w.heap.size + 1) rfl 24 _ (0, 0) _ q1 Try.underlying24 rfl hil ?_)
      | (refine wpList_store_row rfl 24 (.tmp 2) (.tmp 8) rfl w.heap.size _ rfl rfl 24 _ q0 hil hsz2 ho1 ?_))
    exact bodyPost_ret (results_cell_row rfl _ _ w.heap.size _ _ _ _ rfl (setRow_heap _ _ _ _ _ _ q0) Try.underlying24 rfl hil) rfl ⟨by rw [unhide Hd], w1, w2, hb1, hp1, below_setRow hbd (Nat.le_refl _) _⟩
theorem rdigest_calls (g : Nat) (r : Rd) (hl : r.rest.length ≤ 4611686018427387904) (w : World) (h : RdAt w g r) :
    Calls Try.prog 23 #[.pointer (some ⟨g, 0, none⟩)] w fun e w' => e = .returned (.agg (bc (pad32 (r.take 32).1))) ∧ RdAt w' g (r.take 32).2 ∧ Turned g w w' := by
  have hg := h.lt
  refine (rdigest_of _ (r.take 32).1 (r.take_length 32) (fun w1 w2 => RdAt w2 g (r.take 32).2 ∧ Turned g w1 w2) w (fun w1 hb => take_calls g 32 (by decide) r hl w1 (h.below hb)) (fun w1 w2 hp k o hk ho => hp.2.row (by omega) ho)).mono ?_
  rintro e w' ⟨rfl, w1, w2, hb1, ⟨h2, t2⟩, hb3⟩
  refine ⟨rfl, (hb3.block g hg).trans h2, ⟨(hb1.mono (by omega)).trans (t2.below.trans (hb3.mono (by omega))), fun k hk hkg => ?_⟩⟩
  rw [hb3.block k hk, t2.kept k (Nat.lt_of_lt_of_le hk hb1.size) hkg, hb1.block k hk]
theorem rdigest_nil (w : World) :
    Calls Try.prog 23 #[.pointer none] w fun e w' => e = .returned (.agg (bc (List.replicate 32 0))) ∧ Below w.heap.size w w' := by
  refine (rdigest_of _ [] (by simp) (fun w1 w2 => w2 = w1) w (fun w1 hb => take_nil 32 (by decide) w1) (fun w1 w2 hp k o hk ho => by rw [hp]; exact ho)).mono ?_
  rintro e w' ⟨rfl, w1, w2, hb1, rfl, hb3⟩
  exact ⟨rfl, hb1.trans hb3⟩
end Go.Proofs.Ytngmcipmmeabmaa
