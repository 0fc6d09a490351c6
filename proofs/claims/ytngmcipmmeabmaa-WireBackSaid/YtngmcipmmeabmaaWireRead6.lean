/-
  WHAT A READER's Sig ANSWERS.
-/
import Derived.Test.YtngmcipmmeabmaaWireRead5
namespace Go.Proofs.Ytngmcipmmeabmaa
open Go.RowKit
set_option linter.unusedSimpArgs false
set_option linter.unusedVariables false

theorem Turned.alloc {g : Nat} {w w' : World} (h : Turned g w w') (hg : g ≤ w'.heap.size) (o : Obj) : Turned g w (w'.alloc o) :=
  h.trans (Turned.of_below ((Below.refl _ _).alloc (Nat.le_refl _) o) hg)
theorem Turned.setNew {g G o : Nat} {w w' : World} (h : Turned g w w') (hG : w.heap.size ≤ G) (hg : g ≤ G) (v : Value) : Turned g w (w'.setCell ⟨G, o, none⟩ v) :=
  ⟨h.below.setCell (by show g ≤ G; exact hg) _, fun k hk hk2 => by rw [heap_setCell_other _ _ _ _ (by show k ≠ G; omega)]; exact h.kept k hk hk2⟩
theorem RdAt.other {g G o : Nat} {w : World} {r : Rd} (h : RdAt w g r) (hG : g ≠ G) (v : Value) : RdAt (w.setCell ⟨G, o, none⟩ v) g r :=
  (heap_setCell_other w ⟨G, o, none⟩ g v (by show g ≠ G; exact hG)).trans h
theorem RdAt.alloc {g : Nat} {w : World} {r : Rd} (h : RdAt w g r) (o : Obj) : RdAt (w.alloc o) g r := (Below.heap_alloc w o g h.lt).trans h

def Rd.head (r : Rd) : Rd := if 2147483647 < (r.num 4).1 then (r.num 4).2.fail 8 else (r.num 4).2
theorem Rd.head_rest (r : Rd) : r.head.rest.length ≤ r.rest.length := by
  unfold Rd.head
  have := r.take_rest 4
  split
  · rw [Rd.fail_rest]; exact this
  · exact this
def Rd.d1 (r : Rd) : List UInt8 × Rd := r.head.digests 32
def Rd.d2 (r : Rd) : List UInt8 × Rd := r.d1.2.digests 32
def Rd.d3 (r : Rd) : List UInt8 × Rd := r.d2.2.digests 32
theorem Rd.d1_rest (r : Rd) : r.d1.2.rest.length ≤ r.rest.length := Nat.le_trans (Rd.digests_rest _ _) r.head_rest
theorem Rd.d2_rest (r : Rd) : r.d2.2.rest.length ≤ r.rest.length := Nat.le_trans (Rd.digests_rest _ _) r.d1_rest
theorem Rd.d3_rest (r : Rd) : r.d3.2.rest.length ≤ r.rest.length := Nat.le_trans (Rd.digests_rest _ _) r.d2_rest


set_option maxHeartbeats 2000000 in
set_option maxRecDepth 100000 in
theorem rsig_calls (g : Nat) (r : Rd) (hl : r.rest.length ≤ 4611686018427387904) (w : World) (h : RdAt w g r) :
    Calls Try.prog 26 #[.pointer (some ⟨g, 0, none⟩)] w fun e w' => ∃ v, e = .returned v ∧ RdAt w' g r.d3.2 ∧ Turned g w w' ∧
      (r.d3.2.err ≠ 0 → v = .agg sig0) ∧ (r.d3.2.err = 0 → ∃ v1 v2 v3, v = .agg #[.int .i64 ((r.num 4).1 : Int), v1, v2, v3] ∧ Digs w' v1 r.d1.1 ∧ Digs w' v2 r.d2.1 ∧ Digs w' v3 r.d3.1) := by
  have hg := h.lt
  have hm := r.num_lt 4
  have hm : (r.num 4).1 < 4294967296 := hm
  have r0 := r.head_rest
  have r1 := r.d1_rest
  have r2 := r.d2_rest
  have hi : (Try.prog.info? 27).map (·.size) = some sig0.size := by kernel_rfl
  have q0 := al1 w (.cells sig0 27)
  have h0 := h.alloc (.cells sig0 27)
  have t0 := (Turned.refl g w).alloc (Nat.le_of_lt hg) (.cells sig0 27)
  have z0 : (w.alloc (.cells sig0 27)).heap.size = w.heap.size + 1 := by simp
  have hw := rword_calls g r hl _ h0
  have HW := hide hw
  have HI := hide hi
  generalize hX0 : w.alloc (.cells sig0 27) = W0 at *
  have HX0 := hide hX0
  clear hw h0 hi hX0
  have dA : ∀ w, RdAt w g r.head → Calls Try.prog 31 #[.pointer (some ⟨g, 0, none⟩), .int .i64 32] w fun e w' => ∃ b k, e = .returned (.slice (some ⟨b, 0, none⟩) k k) ∧ r.d1.1.length = 32 * k ∧ w.heap.size ≤ b ∧ w'.heap[b]? = some (.cells (bc r.d1.1) 24 (0, 0)) ∧ RdAt w' g r.d1.2 ∧ Turned g w w' := fun w hh => rdigests_calls g r.head (by omega) 32 w hh
  have dB : ∀ w, RdAt w g r.d1.2 → Calls Try.prog 31 #[.pointer (some ⟨g, 0, none⟩), .int .i64 32] w fun e w' => ∃ b k, e = .returned (.slice (some ⟨b, 0, none⟩) k k) ∧ r.d2.1.length = 32 * k ∧ w.heap.size ≤ b ∧ w'.heap[b]? = some (.cells (bc r.d2.1) 24 (0, 0)) ∧ RdAt w' g r.d2.2 ∧ Turned g w w' := fun w hh => rdigests_calls g r.d1.2 (by omega) 32 w hh
  have dC : ∀ w, RdAt w g r.d2.2 → Calls Try.prog 31 #[.pointer (some ⟨g, 0, none⟩), .int .i64 32] w fun e w' => ∃ b k, e = .returned (.slice (some ⟨b, 0, none⟩) k k) ∧ r.d3.1.length = 32 * k ∧ w.heap.size ≤ b ∧ w'.heap[b]? = some (.cells (bc r.d3.1) 24 (0, 0)) ∧ RdAt w' g r.d3.2 ∧ Turned g w w' := fun w hh => rdigests_calls g r.d2.2 (by omega) 32 w hh
  have hhd : (2147483647 < (r.num 4).1 → r.head = (r.num 4).2.fail 8) ∧ (¬ 2147483647 < (r.num 4).1 → r.head = (r.num 4).2) := ⟨fun h => by rw [Rd.head, if_pos h], fun h => by rw [Rd.head, if_neg h]⟩
  generalize r.head = rh at *
  generalize r.d1.1 = l1 at *
  generalize r.d1.2 = ra at *
  generalize r.d2.1 = l2 at *
  generalize r.d2.2 = rb at *
  generalize r.d3.1 = l3 at *
  generalize r.d3.2 = rc at *
  generalize (r.num 4).1 = m at *
  generalize (r.num 4).2 = rn at *
  have DA := hide dA
  have DB := hide dB
  have DC := hide dC
  clear dA dB dC r0 r1 r2 h hl
  by_cases hbig : 2147483647 < m
  case' pos =>
    have hrh := hide (hhd.1 hbig)
    have dd : decide ((2147483647 : Int) < (m : Int)) = true := by simp; omega
    clear hhd hbig
    go_enter Try.func26, Try.ntmps26
    go_wp2_with fail
    rw [show w.alloc (.cells #[.int .i64 0, .slice none 0 0, .slice none 0 0, .slice none 0 0] 27) = W0 from unhide HX0]
    refine (unhide HW).mono ?_
    rintro e wa ⟨rfl, ha, ta⟩
    go_wp2_with fail
    refine (fail_calls g rn 8 _ ha).mono ?_
    rintro e w1 ⟨rfl, h1, tb⟩
    rw [← unhide hrh] at h1
    have t1 := ta.trans tb
    clear ha ta tb hrh
  case' neg =>
    have hrh := hide (hhd.2 hbig)
    have dd : decide ((2147483647 : Int) < (m : Int)) = false := by simp; omega
    clear hhd hbig
    go_enter Try.func26, Try.ntmps26
    go_wp2_with fail
    rw [show w.alloc (.cells #[.int .i64 0, .slice none 0 0, .slice none 0 0, .slice none 0 0] 27) = W0 from unhide HX0]
    refine (unhide HW).mono ?_
    rintro e w1 ⟨rfl, h1, t1⟩
    rw [← unhide hrh] at h1
    clear hrh
  all_goals
    have q1 := t1.row (by omega) q0
    have T1 := t0.trans t1
    have z1 := t1.below.size
    clear t0 t1 q0
    go_wp2_with fail
    have g2 := al1 w1 (.cells #[.int .i64 (m : Int), .slice none 0 0, .slice none 0 0, .slice none 0 0] 27)
    have q2 := (Below.heap_alloc w1 (.cells #[.int .i64 (m : Int), .slice none 0 0, .slice none 0 0, .slice none 0 0] 27) w.heap.size (by omega)).trans q1
    have h2 := h1.alloc (.cells #[.int .i64 (m : Int), .slice none 0 0, .slice none 0 0, .slice none 0 0] 27)
    have T2 := T1.alloc (by omega) (.cells #[.int .i64 (m : Int), .slice none 0 0, .slice none 0 0, .slice none 0 0] 27)
    have z2 : (w1.alloc (.cells #[.int .i64 (m : Int), .slice none 0 0, .slice none 0 0, .slice none 0 0] 27)).heap.size = w1.heap.size + 1 := by simp
    refine (unhide DA (w1.alloc (.cells #[.int .i64 (m : Int), .slice none 0 0, .slice none 0 0, .slice none 0 0] 27)) h2).mono ?_
    generalize w1.alloc (.cells #[.int .i64 (m : Int), .slice none 0 0, .slice none 0 0, .slice none 0 0] 27) = W2 at *
    generalize hG : w1.heap.size = G at *
    rintro e w3 ⟨x1, k1, rfl, hk1, hx1, row1, h3, t3⟩
    have g3 := t3.row (by omega) g2
    have q3 := t3.row (by omega) q2
    have T3 := T2.trans t3
    have z3 := t3.below.size
    have c3 := (sig_cell g3).1 1 _ rfl
    have f3 := (sig_cell g3).2 1
    have HK1 := hide hk1
    clear g2 q1 q2 h1 h2 T1 T2 t3 hk1
    go_wp2_with fail
    have g4 := heap_setCell_same w3 G 1 _ _ (.slice (some ⟨x1, 0, none⟩) k1 k1) g3
    have q4 := (heap_setCell_other w3 ⟨G, 1, none⟩ w.heap.size (.slice (some ⟨x1, 0, none⟩) k1 k1) (by show _ ≠ G; omega)).trans q3
    have row1b := (heap_setCell_other w3 ⟨G, 1, none⟩ x1 (.slice (some ⟨x1, 0, none⟩) k1 k1) (by show _ ≠ G; omega)).trans row1
    have h4 := h3.other (o := 1) (G := G) (by omega) (.slice (some ⟨x1, 0, none⟩) k1 k1)
    have T4 := T3.setNew (G := G) (o := 1) (by omega) (by omega) (.slice (some ⟨x1, 0, none⟩) k1 k1)
    have z4 : (w3.setCell ⟨G, 1, none⟩ (.slice (some ⟨x1, 0, none⟩) k1 k1)).heap.size = w3.heap.size := World.size_setCell _ _ _
    refine (unhide DB (w3.setCell ⟨G, 1, none⟩ (.slice (some ⟨x1, 0, none⟩) k1 k1)) h4).mono ?_
    generalize w3.setCell ⟨G, 1, none⟩ (.slice (some ⟨x1, 0, none⟩) k1 k1) = W4 at *
    rintro e w5 ⟨x2, k2, rfl, hk2, hx2, row2, h5, t5⟩
    have g5 := t5.row (by omega) g4
    have q5 := t5.row (by omega) q4
    have row1c := t5.row (by omega) row1b
    have T5 := T4.trans t5
    have z5 := t5.below.size
    have c5 := (sig_cell g5).1 2 _ rfl
    have f5 := (sig_cell g5).2 2
    have HK2 := hide hk2
    have hx1z : x1 < w3.heap.size := (Array.getElem?_eq_some_iff.1 row1).1
    clear g3 g4 q3 q4 h3 h4 T3 T4 t5 hk2 c3 f3 row1 row1b
    go_wp2_with fail
    have g6 := heap_setCell_same w5 G 2 _ _ (.slice (some ⟨x2, 0, none⟩) k2 k2) g5
    have q6 := (heap_setCell_other w5 ⟨G, 2, none⟩ w.heap.size (.slice (some ⟨x2, 0, none⟩) k2 k2) (by show _ ≠ G; omega)).trans q5
    have row1d := (heap_setCell_other w5 ⟨G, 2, none⟩ x1 (.slice (some ⟨x2, 0, none⟩) k2 k2) (by show _ ≠ G; omega)).trans row1c
    have row2b := (heap_setCell_other w5 ⟨G, 2, none⟩ x2 (.slice (some ⟨x2, 0, none⟩) k2 k2) (by show _ ≠ G; omega)).trans row2
    have h6 := h5.other (o := 2) (G := G) (by omega) (.slice (some ⟨x2, 0, none⟩) k2 k2)
    have T6 := T5.setNew (G := G) (o := 2) (by omega) (by omega) (.slice (some ⟨x2, 0, none⟩) k2 k2)
    have z6 : (w5.setCell ⟨G, 2, none⟩ (.slice (some ⟨x2, 0, none⟩) k2 k2)).heap.size = w5.heap.size := World.size_setCell _ _ _
    refine (unhide DC (w5.setCell ⟨G, 2, none⟩ (.slice (some ⟨x2, 0, none⟩) k2 k2)) h6).mono ?_
    generalize w5.setCell ⟨G, 2, none⟩ (.slice (some ⟨x2, 0, none⟩) k2 k2) = W6 at *
    rintro e w7 ⟨x3, k3, rfl, hk3, hx3, row3, h7, t7⟩
    have g7 := t7.row (by omega) g6
    have q7 := t7.row (by omega) q6
    have row1e := t7.row (by omega) row1d
    have row2c := t7.row (by omega) row2b
    have T7 := T6.trans t7
    have z7 := t7.below.size
    have c7 := (sig_cell g7).1 3 _ rfl
    have f7 := (sig_cell g7).2 3
    have HK3 := hide hk3
    clear g5 g6 q5 q6 h5 h6 T5 T6 t7 hk3 c5 f5 row1c row1d row2 row2b
    go_wp2_with fail
    have g8 := heap_setCell_same w7 G 3 _ _ (.slice (some ⟨x3, 0, none⟩) k3 k3) g7
    have q8 := (heap_setCell_other w7 ⟨G, 3, none⟩ w.heap.size (.slice (some ⟨x3, 0, none⟩) k3 k3) (by show _ ≠ G; omega)).trans q7
    have row1f := (heap_setCell_other w7 ⟨G, 3, none⟩ x1 (.slice (some ⟨x3, 0, none⟩) k3 k3) (by show _ ≠ G; omega)).trans row1e
    have row2d := (heap_setCell_other w7 ⟨G, 3, none⟩ x2 (.slice (some ⟨x3, 0, none⟩) k3 k3) (by show _ ≠ G; omega)).trans row2c
    have row3b := (heap_setCell_other w7 ⟨G, 3, none⟩ x3 (.slice (some ⟨x3, 0, none⟩) k3 k3) (by show _ ≠ G; omega)).trans row3
    have h8 := h7.other (o := 3) (G := G) (by omega) (.slice (some ⟨x3, 0, none⟩) k3 k3)
    have T8 := T7.setNew (G := G) (o := 3) (by omega) (by omega) (.slice (some ⟨x3, 0, none⟩) k3 k3)
    refine (failed_calls g rc (w7.setCell ⟨G, 3, none⟩ (.slice (some ⟨x3, 0, none⟩) k3 k3)) h8).mono ?_
    generalize w7.setCell ⟨G, 3, none⟩ (.slice (some ⟨x3, 0, none⟩) k3 k3) = W8 at *
    rintro e w9 ⟨rfl, rfl⟩
    have c80 := (sig_cell q8).1 0 _ rfl
    have c81 := (sig_cell q8).1 1 _ rfl
    have c82 := (sig_cell q8).1 2 _ rfl
    have c83 := (sig_cell q8).1 3 _ rfl
    have f8 := (sig_cell q8).2
    have d80 : w9.cell? ⟨G, 0, none⟩ = some (.int .i64 (m : Int)) := (sig_cell g8).1 0 _ rfl
    have d81 : w9.cell? ⟨G, 1, none⟩ = some (.slice (some ⟨x1, 0, none⟩) k1 k1) := (sig_cell g8).1 1 _ rfl
    have d82 : w9.cell? ⟨G, 2, none⟩ = some (.slice (some ⟨x2, 0, none⟩) k2 k2) := (sig_cell g8).1 2 _ rfl
    have d83 : w9.cell? ⟨G, 3, none⟩ = some (.slice (some ⟨x3, 0, none⟩) k3 k3) := (sig_cell g8).1 3 _ rfl
    have Q8 := hide q8
    have H8 := hide h8
    have hRg : w.heap.size ≠ g := by omega
    clear g7 q7 h7 T7 c7 f7 row1e row2c row3 q8 g8
    by_cases he : rc.err = 0
    · have ee : (rc.err != 0) = false := by simpa using he
      rw [ee]
      go_wp2
      have W4 : ∀ v0 v1 v2 v3 : Value, Turned g w ((((w9.setCell ⟨w.heap.size, 0, none⟩ v0).setCell ⟨w.heap.size, 1, none⟩ v1).setCell ⟨w.heap.size, 2, none⟩ v2).setCell ⟨w.heap.size, 3, none⟩ v3) ∧ RdAt ((((w9.setCell ⟨w.heap.size, 0, none⟩ v0).setCell ⟨w.heap.size, 1, none⟩ v1).setCell ⟨w.heap.size, 2, none⟩ v2).setCell ⟨w.heap.size, 3, none⟩ v3) g rc ∧ ∀ k o, k ≠ w.heap.size → w9.heap[k]? = some o → ((((w9.setCell ⟨w.heap.size, 0, none⟩ v0).setCell ⟨w.heap.size, 1, none⟩ v1).setCell ⟨w.heap.size, 2, none⟩ v2).setCell ⟨w.heap.size, 3, none⟩ v3).heap[k]? = some o := fun v0 v1 v2 v3 =>
        ⟨(((T8.setNew (Nat.le_refl _) (by omega) _).setNew (Nat.le_refl _) (by omega) _).setNew (Nat.le_refl _) (by omega) _).setNew (Nat.le_refl _) (by omega) _,
          ((((unhide H8).other (Ne.symm hRg) _).other (Ne.symm hRg) _).other (Ne.symm hRg) _).other (Ne.symm hRg) _,
          fun k o hk ho => by
            rw [heap_setCell_other _ _ _ _ (by show k ≠ _; exact hk), heap_setCell_other _ _ _ _ (by show k ≠ _; exact hk), heap_setCell_other _ _ _ _ (by show k ≠ _; exact hk), heap_setCell_other _ _ _ _ (by show k ≠ _; exact hk)]; exact ho⟩
      refine bodyPost_ret (results_cell_row rfl _ _ w.heap.size _ _ _ _ rfl (set4 _ _ _ _ _ _ _ _ _ _ _ (unhide Q8)) Try.underlying27 rfl (unhide HI)) rfl ⟨_, rfl, (W4 _ _ _ _).2.1, (W4 _ _ _ _).1, fun hh => absurd he hh, fun _ => ⟨_, _, _, rfl, digs_row (unhide HK1) ((W4 _ _ _ _).2.2 _ _ (by omega) row1f), digs_row (unhide HK2) ((W4 _ _ _ _).2.2 _ _ (by omega) row2d), digs_row (unhide HK3) ((W4 _ _ _ _).2.2 _ _ (by omega) row3b)⟩⟩
    · have ee : (rc.err != 0) = true := by simpa using he
      rw [ee]
      go_wp2
      refine bodyPost_ret (results_cell_row rfl _ _ w.heap.size _ _ _ _ rfl (set4 _ _ _ _ _ _ _ _ _ _ _ (unhide Q8)) Try.underlying27 rfl (unhide HI)) rfl ⟨_, rfl, ((((unhide H8).other (Ne.symm hRg) _).other (Ne.symm hRg) _).other (Ne.symm hRg) _).other (Ne.symm hRg) _, (((T8.setNew (Nat.le_refl _) (by omega) _).setNew (Nat.le_refl _) (by omega) _).setNew (Nat.le_refl _) (by omega) _).setNew (Nat.le_refl _) (by omega) _, fun _ => rfl, fun hh => absurd hh he⟩
end Go.Proofs.Ytngmcipmmeabmaa
