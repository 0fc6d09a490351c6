/-
  WHAT A READER's Digests AND Sig ANSWER.
-/
import Derived.Test.YtngmcipmmeabmaaWireRead4
namespace Go.Proofs.Ytngmcipmmeabmaa
open Go.RowKit
set_option linter.unusedSimpArgs false
set_option linter.unusedVariables false

/-- A list of digests in memory: their bytes. -/
def Digs (w : World) (v : Value) (l : List UInt8) : Prop :=
  ∃ p n cap, v = .slice p n cap ∧ l.length = 32 * n ∧ (0 < n → ∃ b off, p = some ⟨b, off, none⟩ ∧ b < w.heap.size ∧ Bytes w b off l)
theorem Digs.below {w w' : World} {v : Value} {l : List UInt8} (h : Digs w v l) (hb : Below w.heap.size w w') : Digs w' v l := by
  obtain ⟨p, n, cap, rfl, hl, hp⟩ := h
  refine ⟨p, n, cap, rfl, hl, fun hn => ?_⟩
  obtain ⟨b, off, rfl, hlt, hby⟩ := hp hn
  exact ⟨b, off, rfl, Nat.lt_of_lt_of_le hlt hb.size, hby.below hb hlt⟩
/-- A new row of digests. -/
theorem digs_row {w : World} {b k : Nat} {l : List UInt8} {t : TypeId} (hl : l.length = 32 * k) (h : w.heap[b]? = some (.cells (bc l) t (0, 0))) : Digs w (.slice (some ⟨b, 0, none⟩) k k) l :=
  ⟨_, _, _, rfl, hl, fun _ => ⟨b, 0, rfl, (Array.getElem?_eq_some_iff.1 h).1, fun j hj => by rw [Nat.zero_add, cell_of_row _ _ _ _ _ _ h]; exact bc_at _ _ hj⟩⟩

theorem Rd.take_whole (r : Rd) (n : Nat) : (r.take n).1.length = 0 ∨ (r.take n).1.length = n := by
  unfold Rd.take
  split
  · simp
  · split
    · simp
    · simp; omega
/-- Digests of at most so many: their bytes. -/
def Rd.digests (r : Rd) (most : Int) : List UInt8 × Rd := (r.len most).2.take (32 * (r.len most).1)
theorem Rd.digests_rest (r : Rd) (most : Int) : (r.digests most).2.rest.length ≤ r.rest.length := Nat.le_trans (Rd.take_rest _ _) (r.len_rest most)
theorem rdigests_calls (g : Nat) (r : Rd) (hl : r.rest.length ≤ 4611686018427387904) (most : Int) (w : World) (h : RdAt w g r) :
    Calls Try.prog 31 #[.pointer (some ⟨g, 0, none⟩), .int .i64 most] w fun e w' => ∃ b k, e = .returned (.slice (some ⟨b, 0, none⟩) k k) ∧ (r.digests most).1.length = 32 * k ∧ w.heap.size ≤ b ∧ w'.heap[b]? = some (.cells (bc (r.digests most).1) 24 (0, 0)) ∧ RdAt w' g (r.digests most).2 ∧ Turned g w w' := by
  have hm := r.len_lt most
  have hrs := r.len_rest most
  obtain ⟨k, hk, hkm⟩ : ∃ k, (r.digests most).1.length = 32 * k ∧ k ≤ (r.len most).1 := by
    rcases Rd.take_whole (r.len most).2 (32 * (r.len most).1) with h0 | h0
    · exact ⟨0, h0, Nat.zero_le _⟩
    · exact ⟨(r.len most).1, h0, Nat.le_refl _⟩
  refine (rdigests_of _ most (r.len most).1 k hm (r.digests most).1 hk hkm (fun w1 => RdAt w1 g (r.len most).2 ∧ Turned g w w1) (fun w2 => RdAt w2 g (r.digests most).2 ∧ Turned g w w2) w (rlength_calls g r hl most w h) (fun w1 h1 => ?_)).mono ?_
  · refine (take_calls g (32 * (r.len most).1) (by omega) (r.len most).2 (by omega) w1 h1.1).mono ?_
    rintro e w2 ⟨rfl, h2, t2⟩
    exact ⟨rfl, h2, h1.2.trans t2⟩
  · rintro e w' ⟨w2, rfl, ⟨h2, t2⟩, hb, hrow⟩
    exact ⟨w2.heap.size, k, rfl, hk, t2.below.size, hrow, h2.below hb, t2.trans (Turned.of_below hb (Nat.le_of_lt h2.lt))⟩
theorem rdigests_nil (most : Int) (w : World) :
    Calls Try.prog 31 #[.pointer none, .int .i64 most] w fun e w' => ∃ b, e = .returned (.slice (some ⟨b, 0, none⟩) 0 0) ∧ Below w.heap.size w w' := by
  refine (rdigests_of _ most 0 0 (by decide) [] rfl (Nat.le_refl _) (fun w1 => Below w.heap.size w w1) (fun w2 => Below w.heap.size w w2) w (rlength_nil most w) (fun w1 h1 => ?_)).mono ?_
  · refine (take_nil 0 (by decide) w1).mono ?_
    rintro e w2 ⟨rfl, rfl⟩
    exact ⟨rfl, h1⟩
  · rintro e w' ⟨w2, rfl, h2, hb, hrow⟩
    exact ⟨w2.heap.size, rfl, h2.trans (hb.mono h2.size)⟩

/-- A signature's cells. -/
def sigCells (i : Int) (a b c : Value) : Array Value := #[.int .i64 i, a, b, c]
def sig0 : Array Value := #[.int .i64 0, .slice none 0 0, .slice none 0 0, .slice none 0 0]
theorem sig_cell {w : World} {G : Nat} {cs : Array Value} {t : TypeId} (h : w.heap[G]? = some (.cells cs t (0, 0))) : (∀ j v, cs[j]? = some v → w.cell? ⟨G, j, none⟩ = some v) ∧ (∀ j, w.frozen? ⟨G, j, none⟩ = false) :=
  ⟨fun j v hv => (cell_of_row _ _ _ _ _ _ h).trans hv, fun j => frozen_of_row _ _ _ _ _ h⟩
theorem set4 (w : World) (g : Nat) (t : TypeId) (z0 z1 z2 z3 v0 v1 v2 v3 : Value) (hg : w.heap[g]? = some (.cells #[z0, z1, z2, z3] t (0, 0))) : ((((w.setCell ⟨g, 0, none⟩ v0).setCell ⟨g, 1, none⟩ v1).setCell ⟨g, 2, none⟩ v2).setCell ⟨g, 3, none⟩ v3).heap[g]? = some (.cells #[v0, v1, v2, v3] t (0, 0)) := by
  have h0 : (w.setCell ⟨g, 0, none⟩ v0).heap[g]? = some (.cells #[v0, z1, z2, z3] t (0, 0)) := heap_setCell_same _ g 0 _ t v0 hg
  have h1 : ((w.setCell ⟨g, 0, none⟩ v0).setCell ⟨g, 1, none⟩ v1).heap[g]? = some (.cells #[v0, v1, z2, z3] t (0, 0)) := heap_setCell_same _ g 1 _ t v1 h0
  have h2 : (((w.setCell ⟨g, 0, none⟩ v0).setCell ⟨g, 1, none⟩ v1).setCell ⟨g, 2, none⟩ v2).heap[g]? = some (.cells #[v0, v1, v2, z3] t (0, 0)) := heap_setCell_same _ g 2 _ t v2 h1
  exact heap_setCell_same _ g 3 _ t v3 h2
set_option maxHeartbeats 1000000 in
set_option maxRecDepth 100000 in
theorem rsig_nil (w : World) :
    Calls Try.prog 26 #[.pointer none] w fun e w' => e = .returned (.agg sig0) ∧ Below w.heap.size w w' := by
  have hi : (Try.prog.info? 27).map (·.size) = some sig0.size := by kernel_rfl
  go_enter Try.func26, Try.ntmps26
  go_wp2_with fail
  have q0 := al1 w (.cells sig0 27)
  have b0 := (Below.refl w.heap.size w).alloc (Nat.le_refl _) (.cells sig0 27)
  have z0 : (w.alloc (.cells sig0 27)).heap.size = w.heap.size + 1 := by simp
  refine (rword_nil (w.alloc (.cells sig0 27))).mono ?_
  generalize w.alloc (.cells sig0 27) = W0 at *
  rintro e w1 ⟨rfl, hb1⟩
  have q1 := Below.at hb1 (by omega) q0
  have b1 : Below w.heap.size w w1 := b0.trans (hb1.mono (by omega))
  have z1 := hb1.size
  clear q0 b0 hb1
  go_wp2_with fail
  have g2 := al1 w1 (.cells sig0 27)
  have q2 := (Below.heap_alloc w1 (.cells sig0 27) w.heap.size (by omega)).trans q1
  have b2 := b1.alloc (by omega) (.cells sig0 27)
  have z2 : (w1.alloc (.cells sig0 27)).heap.size = w1.heap.size + 1 := by simp
  refine (rdigests_nil 32 (w1.alloc (.cells sig0 27))).mono ?_
  generalize w1.alloc (.cells sig0 27) = W2 at *
  generalize hG : w1.heap.size = G at *
  rintro e w3 ⟨x1, rfl, hb3⟩
  have g3 := Below.at hb3 (by omega) g2
  have q3 := Below.at hb3 (by omega) q2
  have b3 : Below w.heap.size w w3 := b2.trans (hb3.mono (by omega))
  have z3 := hb3.size
  have c3 := (sig_cell g3).1 1 _ rfl
  have f3 := (sig_cell g3).2 1
  have hGw : w.heap.size < G := by omega
  clear g2 q1 q2 b1 b2 hb3
  go_wp2_with fail
  have g4 := heap_setCell_same w3 G 1 _ _ (.slice (some ⟨x1, 0, none⟩) 0 0) g3
  have q4 := (heap_setCell_other w3 ⟨G, 1, none⟩ w.heap.size (.slice (some ⟨x1, 0, none⟩) 0 0) (by show _ ≠ G; omega)).trans q3
  have b4 := b3.setCell (p := ⟨G, 1, none⟩) (by show _ ≤ G; omega) (.slice (some ⟨x1, 0, none⟩) 0 0)
  have z4 : (w3.setCell ⟨G, 1, none⟩ (.slice (some ⟨x1, 0, none⟩) 0 0)).heap.size = w3.heap.size := World.size_setCell _ _ _
  refine (rdigests_nil 32 (w3.setCell ⟨G, 1, none⟩ (.slice (some ⟨x1, 0, none⟩) 0 0))).mono ?_
  generalize w3.setCell ⟨G, 1, none⟩ (.slice (some ⟨x1, 0, none⟩) 0 0) = W4 at *
  rintro e w5 ⟨x2, rfl, hb5⟩
  have g5 := Below.at hb5 (by omega) g4
  have q5 := Below.at hb5 (by omega) q4
  have b5 : Below w.heap.size w w5 := b4.trans (hb5.mono (by omega))
  have z5 := hb5.size
  have c5 := (sig_cell g5).1 2 _ rfl
  have f5 := (sig_cell g5).2 2
  clear g3 g4 q3 q4 b3 b4 hb5 c3 f3
  go_wp2_with fail
  have g6 := heap_setCell_same w5 G 2 _ _ (.slice (some ⟨x2, 0, none⟩) 0 0) g5
  have q6 := (heap_setCell_other w5 ⟨G, 2, none⟩ w.heap.size (.slice (some ⟨x2, 0, none⟩) 0 0) (by show _ ≠ G; omega)).trans q5
  have b6 := b5.setCell (p := ⟨G, 2, none⟩) (by show _ ≤ G; omega) (.slice (some ⟨x2, 0, none⟩) 0 0)
  have z6 : (w5.setCell ⟨G, 2, none⟩ (.slice (some ⟨x2, 0, none⟩) 0 0)).heap.size = w5.heap.size := World.size_setCell _ _ _
  refine (rdigests_nil 32 (w5.setCell ⟨G, 2, none⟩ (.slice (some ⟨x2, 0, none⟩) 0 0))).mono ?_
  generalize w5.setCell ⟨G, 2, none⟩ (.slice (some ⟨x2, 0, none⟩) 0 0) = W6 at *
  rintro e w7 ⟨x3, rfl, hb7⟩
  have g7 := Below.at hb7 (by omega) g6
  have q7 := Below.at hb7 (by omega) q6
  have b7 : Below w.heap.size w w7 := b6.trans (hb7.mono (by omega))
  have z7 := hb7.size
  have c7 := (sig_cell g7).1 3 _ rfl
  have f7 := (sig_cell g7).2 3
  clear g5 g6 q5 q6 b5 b6 hb7 c5 f5
  go_wp2_with fail
  have q8 := (heap_setCell_other w7 ⟨G, 3, none⟩ w.heap.size (.slice (some ⟨x3, 0, none⟩) 0 0) (by show _ ≠ G; omega)).trans q7
  have b8 := b7.setCell (p := ⟨G, 3, none⟩) (by show _ ≤ G; omega) (.slice (some ⟨x3, 0, none⟩) 0 0)
  refine (failed_nil (w7.setCell ⟨G, 3, none⟩ (.slice (some ⟨x3, 0, none⟩) 0 0))).mono ?_
  generalize w7.setCell ⟨G, 3, none⟩ (.slice (some ⟨x3, 0, none⟩) 0 0) = W8 at *
  rintro e w9 ⟨rfl, rfl⟩
  clear g7 q7 b7 c7 f7
  have c80 := (sig_cell q8).1 0 _ rfl
  have c81 := (sig_cell q8).1 1 _ rfl
  have c82 := (sig_cell q8).1 2 _ rfl
  have c83 := (sig_cell q8).1 3 _ rfl
  have f8 := (sig_cell q8).2
  have Q8 := hide q8
  clear q8
  go_wp2
  exact bodyPost_ret (results_cell_row rfl _ _ w.heap.size _ _ _ _ rfl (set4 _ _ _ _ _ _ _ _ _ _ _ (unhide Q8)) Try.underlying27 rfl hi) rfl ⟨rfl, (((b8.setCell (by simp) _).setCell (by simp) _).setCell (by simp) _).setCell (by simp) _⟩
end Go.Proofs.Ytngmcipmmeabmaa
