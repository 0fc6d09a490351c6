/-
  WHAT A READER's Sig ANSWERS.
-/
/-
  WHAT wire's Reader.Sig RETURNS, ITS LISTS IN NEW BLOCKS.
-/
/-
  WHAT IS READ WOULD BE WRITTEN SO; WHAT IS WRITTEN IS READ AS IT WAS: the lists alone.
-/
/-
  WHAT package update's Read AND ReadStop RETURN.
-/
/-
  WHAT THE DOCUMENT'S OWN SameList AND SameSig RETURN OF LISTS OF THE SAME BYTES: true.
-/
/-
  WHAT IS WRITTEN IS READ AS IT WAS: the lists alone.
-/
/-
  A WHOLE ROW LOADED WHERE A GUARD LETS IT. Over whatever program.
-/
/-
  UPDATES AND STOPS THERE AND BACK, PLAIN; WHAT THE DOCUMENT's OWN Same AND SameStop RETURN OF THOSE THAT ARE ALIKE: true.
-/
import Derived.Test.YtmgacpcpnijgdaaDoorJ6
import Derived.Test.YtmgacpcpnijgdaaDoorJ2
import Derived.Test.YtmgacpcpnijgdaaDoorJ0
import Derived.Deep.MidRow
namespace Go.Proofs.YtmgacpcpnijgdaaDoor
open Go.RowKit
set_option linter.unusedSimpArgs false
set_option linter.unusedVariables false

theorem Turned.alloc {g : Nat} {w w' : World} (h : Turned g w w') (hg : g ≤ w'.heap.size) (o : Obj) : Turned g w (w'.alloc o) :=
  h.trans (Turned.of_below ((Below.refl _ _).alloc (Nat.le_refl _) o) hg)
theorem Turned.setNew {g G o : Nat} {w w' : World} (h : Turned g w w') (hG : w.heap.size ≤ G) (hg : g ≤ G) (v : Value) : Turned g w (w'.setCell ⟨G, o, none⟩ v) :=
  ⟨h.below.setCell (by show g ≤ G; exact hg) _, fun k hk hk2 => by rw [heap_setCell_other _ _ _ _ (by show k ≠ G; omega)]; exact h.kept k hk hk2⟩
theorem RdAt.other {g G o : Nat} {w : World} {r : Rd} (h : RdAt w g r) (hG : g ≠ G) (v : Value) : RdAt (w.setCell ⟨G, o, none⟩ v) g r :=
  (heap_setCell_other w ⟨G, o, none⟩ g v (by show g ≠ G; exact hG)).trans h
theorem RdAt.alloc {g : Nat} {w : World} {r : Rd} (h : RdAt w g r) (o : Obj) : RdAt (w.alloc o) g r := (Below.heap_alloc w o g h.lt).trans h

def Rd.head (r : Rd) : Rd := if 2147483647 < (r.num 4).1 then (r.num 4).2.fail 8 else (r.num 4).2
theorem Rd.head_rest (r : Rd) : r.head.rest.length ≤ r.rest.length := by
  unfold Rd.head
  have := r.take_rest 4
  split
  · rw [Rd.fail_rest]; exact this
  · exact this
def Rd.d1 (r : Rd) : List UInt8 × Rd := r.head.digests 32
def Rd.d2 (r : Rd) : List UInt8 × Rd := r.d1.2.digests 32
def Rd.d3 (r : Rd) : List UInt8 × Rd := r.d2.2.digests 32
theorem Rd.d1_rest (r : Rd) : r.d1.2.rest.length ≤ r.rest.length := Nat.le_trans (Rd.digests_rest _ _) r.head_rest
theorem Rd.d2_rest (r : Rd) : r.d2.2.rest.length ≤ r.rest.length := Nat.le_trans (Rd.digests_rest _ _) r.d1_rest
theorem Rd.d3_rest (r : Rd) : r.d3.2.rest.length ≤ r.rest.length := Nat.le_trans (Rd.digests_rest _ _) r.d2_rest


set_option maxHeartbeats 2000000 in
set_option maxRecDepth 100000 in
theorem rsig_calls (g : Nat) (r : Rd) (hl : r.rest.length ≤ 4611686018427387904) (w : World) (h : RdAt w g r) :
    Calls Tryd.prog 26 #[.pointer (some ⟨g, 0, none⟩)] w fun e w' => ∃ v, e = .returned v ∧ RdAt w' g r.d3.2 ∧ Turned g w w' ∧
      (r.d3.2.err ≠ 0 → v = .agg sig0) ∧ (r.d3.2.err = 0 → ∃ v1 v2 v3, v = .agg #[.int .i64 ((r.num 4).1 : Int), v1, v2, v3] ∧ Digs w' v1 r.d1.1 ∧ Digs w' v2 r.d2.1 ∧ Digs w' v3 r.d3.1) := by
  have hg := h.lt
  have hm := r.num_lt 4
  have hm : (r.num 4).1 < 4294967296 := hm
  have r0 := r.head_rest
  have r1 := r.d1_rest
  have r2 := r.d2_rest
  have hi : (Tryd.prog.info? 33).map (·.size) = some sig0.size := by kernel_rfl
  have q0 := al1 w (.cells sig0 33)
  have h0 := h.alloc (.cells sig0 33)
  have t0 := (Turned.refl g w).alloc (Nat.le_of_lt hg) (.cells sig0 33)
  have z0 : (w.alloc (.cells sig0 33)).heap.size = w.heap.size + 1 := by simp
  have hw := rword_calls g r hl _ h0
  have HW := hide hw
  have HI := hide hi
  generalize hX0 : w.alloc (.cells sig0 33) = W0 at *
  have HX0 := hide hX0
  clear hw h0 hi hX0
  have dA : ∀ w, RdAt w g r.head → Calls Tryd.prog 44 #[.pointer (some ⟨g, 0, none⟩), .int .i64 32] w fun e w' => ∃ b k, e = .returned (.slice (some ⟨b, 0, none⟩) k k) ∧ r.d1.1.length = 32 * k ∧ w.heap.size ≤ b ∧ w'.heap[b]? = some (.cells (bc r.d1.1) 23 (0, 0)) ∧ RdAt w' g r.d1.2 ∧ Turned g w w' := fun w hh => rdigests_calls g r.head (by omega) 32 w hh
  have dB : ∀ w, RdAt w g r.d1.2 → Calls Tryd.prog 44 #[.pointer (some ⟨g, 0, none⟩), .int .i64 32] w fun e w' => ∃ b k, e = .returned (.slice (some ⟨b, 0, none⟩) k k) ∧ r.d2.1.length = 32 * k ∧ w.heap.size ≤ b ∧ w'.heap[b]? = some (.cells (bc r.d2.1) 23 (0, 0)) ∧ RdAt w' g r.d2.2 ∧ Turned g w w' := fun w hh => rdigests_calls g r.d1.2 (by omega) 32 w hh
  have dC : ∀ w, RdAt w g r.d2.2 → Calls Tryd.prog 44 #[.pointer (some ⟨g, 0, none⟩), .int .i64 32] w fun e w' => ∃ b k, e = .returned (.slice (some ⟨b, 0, none⟩) k k) ∧ r.d3.1.length = 32 * k ∧ w.heap.size ≤ b ∧ w'.heap[b]? = some (.cells (bc r.d3.1) 23 (0, 0)) ∧ RdAt w' g r.d3.2 ∧ Turned g w w' := fun w hh => rdigests_calls g r.d2.2 (by omega) 32 w hh
  have hhd : (2147483647 < (r.num 4).1 → r.head = (r.num 4).2.fail 8) ∧ (¬ 2147483647 < (r.num 4).1 → r.head = (r.num 4).2) := ⟨fun h => by rw [Rd.head, if_pos h], fun h => by rw [Rd.head, if_neg h]⟩
  generalize r.head = rh at *
  generalize r.d1.1 = l1 at *
  generalize r.d1.2 = ra at *
  generalize r.d2.1 = l2 at *
  generalize r.d2.2 = rb at *
  generalize r.d3.1 = l3 at *
  generalize r.d3.2 = rc at *
  generalize (r.num 4).1 = m at *
  generalize (r.num 4).2 = rn at *
  have DA := hide dA
  have DB := hide dB
  have DC := hide dC
  clear dA dB dC r0 r1 r2 h hl
  by_cases hbig : 2147483647 < m
  case' pos =>
    have hrh := hide (hhd.1 hbig)
    have dd : decide ((2147483647 : Int) < (m : Int)) = true := by simp; omega
    clear hhd hbig
    go_enter Tryd.func26, Tryd.ntmps26
    go_wp2_with fail
    rw [show w.alloc (.cells #[.int .i64 0, .slice none 0 0, .slice none 0 0, .slice none 0 0] 33) = W0 from unhide HX0]
    refine (unhide HW).mono ?_
    rintro e wa ⟨rfl, ha, ta⟩
    go_wp2_with fail
    refine (fail_calls g rn 8 _ ha).mono ?_
    rintro e w1 ⟨rfl, h1, tb⟩
    rw [← unhide hrh] at h1
    have t1 := ta.trans tb
    clear ha ta tb hrh
  case' neg =>
    have hrh := hide (hhd.2 hbig)
    have dd : decide ((2147483647 : Int) < (m : Int)) = false := by simp; omega
    clear hhd hbig
    go_enter Tryd.func26, Tryd.ntmps26
    go_wp2_with fail
    rw [show w.alloc (.cells #[.int .i64 0, .slice none 0 0, .slice none 0 0, .slice none 0 0] 33) = W0 from unhide HX0]
    refine (unhide HW).mono ?_
    rintro e w1 ⟨rfl, h1, t1⟩
    rw [← unhide hrh] at h1
    clear hrh
  all_goals
    have q1 := t1.row (by omega) q0
    have T1 := t0.trans t1
    have z1 := t1.below.size
    clear t0 t1 q0
    go_wp2_with fail
    have g2 := al1 w1 (.cells #[.int .i64 (m : Int), .slice none 0 0, .slice none 0 0, .slice none 0 0] 33)
    have q2 := (Below.heap_alloc w1 (.cells #[.int .i64 (m : Int), .slice none 0 0, .slice none 0 0, .slice none 0 0] 33) w.heap.size (by omega)).trans q1
    have h2 := h1.alloc (.cells #[.int .i64 (m : Int), .slice none 0 0, .slice none 0 0, .slice none 0 0] 33)
    have T2 := T1.alloc (by omega) (.cells #[.int .i64 (m : Int), .slice none 0 0, .slice none 0 0, .slice none 0 0] 33)
    have z2 : (w1.alloc (.cells #[.int .i64 (m : Int), .slice none 0 0, .slice none 0 0, .slice none 0 0] 33)).heap.size = w1.heap.size + 1 := by simp
    refine (unhide DA (w1.alloc (.cells #[.int .i64 (m : Int), .slice none 0 0, .slice none 0 0, .slice none 0 0] 33)) h2).mono ?_
    generalize w1.alloc (.cells #[.int .i64 (m : Int), .slice none 0 0, .slice none 0 0, .slice none 0 0] 33) = W2 at *
    generalize hG : w1.heap.size = G at *
    rintro e w3 ⟨x1, k1, rfl, hk1, hx1, row1, h3, t3⟩
    have g3 := t3.row (by omega) g2
    have q3 := t3.row (by omega) q2
    have T3 := T2.trans t3
    have z3 := t3.below.size
    have c3 := (sig_cell g3).1 1 _ rfl
    have f3 := (sig_cell g3).2 1
    have HK1 := hide hk1
    clear g2 q1 q2 h1 h2 T1 T2 t3 hk1
    go_wp2_with fail
    have g4 := heap_setCell_same w3 G 1 _ _ (.slice (some ⟨x1, 0, none⟩) k1 k1) g3
    have q4 := (heap_setCell_other w3 ⟨G, 1, none⟩ w.heap.size (.slice (some ⟨x1, 0, none⟩) k1 k1) (by show _ ≠ G; omega)).trans q3
    have row1b := (heap_setCell_other w3 ⟨G, 1, none⟩ x1 (.slice (some ⟨x1, 0, none⟩) k1 k1) (by show _ ≠ G; omega)).trans row1
    have h4 := h3.other (o := 1) (G := G) (by omega) (.slice (some ⟨x1, 0, none⟩) k1 k1)
    have T4 := T3.setNew (G := G) (o := 1) (by omega) (by omega) (.slice (some ⟨x1, 0, none⟩) k1 k1)
    have z4 : (w3.setCell ⟨G, 1, none⟩ (.slice (some ⟨x1, 0, none⟩) k1 k1)).heap.size = w3.heap.size := World.size_setCell _ _ _
    refine (unhide DB (w3.setCell ⟨G, 1, none⟩ (.slice (some ⟨x1, 0, none⟩) k1 k1)) h4).mono ?_
    generalize w3.setCell ⟨G, 1, none⟩ (.slice (some ⟨x1, 0, none⟩) k1 k1) = W4 at *
    rintro e w5 ⟨x2, k2, rfl, hk2, hx2, row2, h5, t5⟩
    have g5 := t5.row (by omega) g4
    have q5 := t5.row (by omega) q4
    have row1c := t5.row (by omega) row1b
    have T5 := T4.trans t5
    have z5 := t5.below.size
    have c5 := (sig_cell g5).1 2 _ rfl
    have f5 := (sig_cell g5).2 2
    have HK2 := hide hk2
    have hx1z : x1 < w3.heap.size := (Array.getElem?_eq_some_iff.1 row1).1
    clear g3 g4 q3 q4 h3 h4 T3 T4 t5 hk2 c3 f3 row1 row1b
    go_wp2_with fail
    have g6 := heap_setCell_same w5 G 2 _ _ (.slice (some ⟨x2, 0, none⟩) k2 k2) g5
    have q6 := (heap_setCell_other w5 ⟨G, 2, none⟩ w.heap.size (.slice (some ⟨x2, 0, none⟩) k2 k2) (by show _ ≠ G; omega)).trans q5
    have row1d := (heap_setCell_other w5 ⟨G, 2, none⟩ x1 (.slice (some ⟨x2, 0, none⟩) k2 k2) (by show _ ≠ G; omega)).trans row1c
    have row2b := (heap_setCell_other w5 ⟨G, 2, none⟩ x2 (.slice (some ⟨x2, 0, none⟩) k2 k2) (by show _ ≠ G; omega)).trans row2
    have h6 := h5.other (o := 2) (G := G) (by omega) (.slice (some ⟨x2, 0, none⟩) k2 k2)
    have T6 := T5.setNew (G := G) (o := 2) (by omega) (by omega) (.slice (some ⟨x2, 0, none⟩) k2 k2)
    have z6 : (w5.setCell ⟨G, 2, none⟩ (.slice (some ⟨x2, 0, none⟩) k2 k2)).heap.size = w5.heap.size := World.size_setCell _ _ _
    refine (unhide DC (w5.setCell ⟨G, 2, none⟩ (.slice (some ⟨x2, 0, none⟩) k2 k2)) h6).mono ?_
    generalize w5.setCell ⟨G, 2, none⟩ (.slice (some ⟨x2, 0, none⟩) k2 k2) = W6 at *
    rintro e w7 ⟨x3, k3, rfl, hk3, hx3, row3, h7, t7⟩
    have g7 := t7.row (by omega) g6
    have q7 := t7.row (by omega) q6
    have row1e := t7.row (by omega) row1d
    have row2c := t7.row (by omega) row2b
    have T7 := T6.trans t7
    have z7 := t7.below.size
    have c7 := (sig_cell g7).1 3 _ rfl
    have f7 := (sig_cell g7).2 3
    have HK3 := hide hk3
    clear g5 g6 q5 q6 h5 h6 T5 T6 t7 hk3 c5 f5 row1c row1d row2 row2b
    go_wp2_with fail
    have g8 := heap_setCell_same w7 G 3 _ _ (.slice (some ⟨x3, 0, none⟩) k3 k3) g7
    have q8 := (heap_setCell_other w7 ⟨G, 3, none⟩ w.heap.size (.slice (some ⟨x3, 0, none⟩) k3 k3) (by show _ ≠ G; omega)).trans q7
    have row1f := (heap_setCell_other w7 ⟨G, 3, none⟩ x1 (.slice (some ⟨x3, 0, none⟩) k3 k3) (by show _ ≠ G; omega)).trans row1e
    have row2d := (heap_setCell_other w7 ⟨G, 3, none⟩ x2 (.slice (some ⟨x3, 0, none⟩) k3 k3) (by show _ ≠ G; omega)).trans row2c
    have row3b := (heap_setCell_other w7 ⟨G, 3, none⟩ x3 (.slice (some ⟨x3, 0, none⟩) k3 k3) (by show _ ≠ G; omega)).trans row3
    have h8 := h7.other (o := 3) (G := G) (by omega) (.slice (some ⟨x3, 0, none⟩) k3 k3)
    have T8 := T7.setNew (G := G) (o := 3) (by omega) (by omega) (.slice (some ⟨x3, 0, none⟩) k3 k3)
    refine (failed_calls g rc (w7.setCell ⟨G, 3, none⟩ (.slice (some ⟨x3, 0, none⟩) k3 k3)) h8).mono ?_
    generalize w7.setCell ⟨G, 3, none⟩ (.slice (some ⟨x3, 0, none⟩) k3 k3) = W8 at *
    rintro e w9 ⟨rfl, rfl⟩
    have c80 := (sig_cell q8).1 0 _ rfl
    have c81 := (sig_cell q8).1 1 _ rfl
    have c82 := (sig_cell q8).1 2 _ rfl
    have c83 := (sig_cell q8).1 3 _ rfl
    have f8 := (sig_cell q8).2
    have d80 : w9.cell? ⟨G, 0, none⟩ = some (.int .i64 (m : Int)) := (sig_cell g8).1 0 _ rfl
    have d81 : w9.cell? ⟨G, 1, none⟩ = some (.slice (some ⟨x1, 0, none⟩) k1 k1) := (sig_cell g8).1 1 _ rfl
    have d82 : w9.cell? ⟨G, 2, none⟩ = some (.slice (some ⟨x2, 0, none⟩) k2 k2) := (sig_cell g8).1 2 _ rfl
    have d83 : w9.cell? ⟨G, 3, none⟩ = some (.slice (some ⟨x3, 0, none⟩) k3 k3) := (sig_cell g8).1 3 _ rfl
    have Q8 := hide q8
    have H8 := hide h8
    have hRg : w.heap.size ≠ g := by omega
    clear g7 q7 h7 T7 c7 f7 row1e row2c row3 q8 g8
    by_cases he : rc.err = 0
    · have ee : (rc.err != 0) = false := by simpa using he
      rw [ee]
      go_wp2
      have W4 : ∀ v0 v1 v2 v3 : Value, Turned g w ((((w9.setCell ⟨w.heap.size, 0, none⟩ v0).setCell ⟨w.heap.size, 1, none⟩ v1).setCell ⟨w.heap.size, 2, none⟩ v2).setCell ⟨w.heap.size, 3, none⟩ v3) ∧ RdAt ((((w9.setCell ⟨w.heap.size, 0, none⟩ v0).setCell ⟨w.heap.size, 1, none⟩ v1).setCell ⟨w.heap.size, 2, none⟩ v2).setCell ⟨w.heap.size, 3, none⟩ v3) g rc ∧ ∀ k o, k ≠ w.heap.size → w9.heap[k]? = some o → ((((w9.setCell ⟨w.heap.size, 0, none⟩ v0).setCell ⟨w.heap.size, 1, none⟩ v1).setCell ⟨w.heap.size, 2, none⟩ v2).setCell ⟨w.heap.size, 3, none⟩ v3).heap[k]? = some o := fun v0 v1 v2 v3 =>
        ⟨(((T8.setNew (Nat.le_refl _) (by omega) _).setNew (Nat.le_refl _) (by omega) _).setNew (Nat.le_refl _) (by omega) _).setNew (Nat.le_refl _) (by omega) _,
          ((((unhide H8).other (Ne.symm hRg) _).other (Ne.symm hRg) _).other (Ne.symm hRg) _).other (Ne.symm hRg) _,
          fun k o hk ho => by
            rw [heap_setCell_other _ _ _ _ (by show k ≠ _; exact hk), heap_setCell_other _ _ _ _ (by show k ≠ _; exact hk), heap_setCell_other _ _ _ _ (by show k ≠ _; exact hk), heap_setCell_other _ _ _ _ (by show k ≠ _; exact hk)]; exact ho⟩
      refine bodyPost_ret (results_cell_row rfl _ _ w.heap.size _ _ _ _ rfl (set4 _ _ _ _ _ _ _ _ _ _ _ (unhide Q8)) Tryd.underlying33 rfl (unhide HI)) rfl ⟨_, rfl, (W4 _ _ _ _).2.1, (W4 _ _ _ _).1, fun hh => absurd he hh, fun _ => ⟨_, _, _, rfl, digs_row (unhide HK1) ((W4 _ _ _ _).2.2 _ _ (by omega) row1f), digs_row (unhide HK2) ((W4 _ _ _ _).2.2 _ _ (by omega) row2d), digs_row (unhide HK3) ((W4 _ _ _ _).2.2 _ _ (by omega) row3b)⟩⟩
    · have ee : (rc.err != 0) = true := by simpa using he
      rw [ee]
      go_wp2
      refine bodyPost_ret (results_cell_row rfl _ _ w.heap.size _ _ _ _ rfl (set4 _ _ _ _ _ _ _ _ _ _ _ (unhide Q8)) Tryd.underlying33 rfl (unhide HI)) rfl ⟨_, rfl, ((((unhide H8).other (Ne.symm hRg) _).other (Ne.symm hRg) _).other (Ne.symm hRg) _).other (Ne.symm hRg) _, (((T8.setNew (Nat.le_refl _) (by omega) _).setNew (Nat.le_refl _) (by omega) _).setNew (Nat.le_refl _) (by omega) _).setNew (Nat.le_refl _) (by omega) _, fun _ => rfl, fun hh => absurd hh he⟩
end Go.Proofs.YtmgacpcpnijgdaaDoor

namespace Go.Proofs.YtmgacpcpnijgdaaDoor
open Go.RowKit
set_option linter.unusedSimpArgs false
set_option linter.unusedVariables false

/-- A list of digests in a new block. -/
structure NewD (B : Nat) (w : World) (v : Value) (l : List UInt8) : Prop where
  ex : ∃ b k, v = .slice (some ⟨b, 0, none⟩) k k ∧ l.length = 32 * k ∧ B ≤ b ∧ w.heap[b]? = some (.cells (bc l) 23 (0, 0))
theorem NewD.digs {B : Nat} {w : World} {v : Value} {l : List UInt8} (h : NewD B w v l) : Digs w v l := by
  obtain ⟨b, k, rfl, hl, _, hr⟩ := h.ex
  exact digs_row hl hr
theorem NewD.keep {B C : Nat} {w w' : World} {v : Value} {l : List UInt8} (h : NewD B w v l) (hk : ∀ k, B ≤ k → k < w.heap.size → w'.heap[k]? = w.heap[k]?) (hC : C ≤ B) : NewD C w' v l := by
  obtain ⟨b, k, rfl, hl, hB, hr⟩ := h.ex
  exact ⟨b, k, rfl, hl, by omega, (hk b hB (Array.getElem?_eq_some_iff.1 hr).1).trans hr⟩
theorem NewD.below {B : Nat} {w w' : World} {v : Value} {l : List UInt8} (h : NewD B w v l) (hb : Below w.heap.size w w') : NewD B w' v l :=
  h.keep (fun k _ hk => hb.block k hk) (Nat.le_refl _)
theorem NewD.one {B : Nat} {w : World} {v : Value} {l : List UInt8} (h : NewD B w v l) : v.oneCell' = true := by
  obtain ⟨b, k, rfl, _⟩ := h.ex
  rfl

set_option maxHeartbeats 2000000 in
set_option maxRecDepth 100000 in
theorem rsigN_calls (g : Nat) (r : Rd) (hl : r.rest.length ≤ 4611686018427387904) (w : World) (h : RdAt w g r) :
    Calls Tryd.prog 26 #[.pointer (some ⟨g, 0, none⟩)] w fun e w' => ∃ v, e = .returned v ∧ RdAt w' g r.d3.2 ∧ Turned g w w' ∧
      (r.d3.2.err ≠ 0 → v = .agg sig0) ∧ (r.d3.2.err = 0 → ∃ v1 v2 v3, v = .agg #[.int .i64 ((r.num 4).1 : Int), v1, v2, v3] ∧ NewD w.heap.size w' v1 r.d1.1 ∧ NewD w.heap.size w' v2 r.d2.1 ∧ NewD w.heap.size w' v3 r.d3.1) := by
  have hg := h.lt
  have hm := r.num_lt 4
  have hm : (r.num 4).1 < 4294967296 := hm
  have r0 := r.head_rest
  have r1 := r.d1_rest
  have r2 := r.d2_rest
  have hi : (Tryd.prog.info? 33).map (·.size) = some sig0.size := by kernel_rfl
  have q0 := al1 w (.cells sig0 33)
  have h0 := h.alloc (.cells sig0 33)
  have t0 := (Turned.refl g w).alloc (Nat.le_of_lt hg) (.cells sig0 33)
  have z0 : (w.alloc (.cells sig0 33)).heap.size = w.heap.size + 1 := by simp
  have hw := rword_calls g r hl _ h0
  have HW := hide hw
  have HI := hide hi
  generalize hX0 : w.alloc (.cells sig0 33) = W0 at *
  have HX0 := hide hX0
  clear hw h0 hi hX0
  have dA : ∀ w, RdAt w g r.head → Calls Tryd.prog 44 #[.pointer (some ⟨g, 0, none⟩), .int .i64 32] w fun e w' => ∃ b k, e = .returned (.slice (some ⟨b, 0, none⟩) k k) ∧ r.d1.1.length = 32 * k ∧ w.heap.size ≤ b ∧ w'.heap[b]? = some (.cells (bc r.d1.1) 23 (0, 0)) ∧ RdAt w' g r.d1.2 ∧ Turned g w w' := fun w hh => rdigests_calls g r.head (by omega) 32 w hh
  have dB : ∀ w, RdAt w g r.d1.2 → Calls Tryd.prog 44 #[.pointer (some ⟨g, 0, none⟩), .int .i64 32] w fun e w' => ∃ b k, e = .returned (.slice (some ⟨b, 0, none⟩) k k) ∧ r.d2.1.length = 32 * k ∧ w.heap.size ≤ b ∧ w'.heap[b]? = some (.cells (bc r.d2.1) 23 (0, 0)) ∧ RdAt w' g r.d2.2 ∧ Turned g w w' := fun w hh => rdigests_calls g r.d1.2 (by omega) 32 w hh
  have dC : ∀ w, RdAt w g r.d2.2 → Calls Tryd.prog 44 #[.pointer (some ⟨g, 0, none⟩), .int .i64 32] w fun e w' => ∃ b k, e = .returned (.slice (some ⟨b, 0, none⟩) k k) ∧ r.d3.1.length = 32 * k ∧ w.heap.size ≤ b ∧ w'.heap[b]? = some (.cells (bc r.d3.1) 23 (0, 0)) ∧ RdAt w' g r.d3.2 ∧ Turned g w w' := fun w hh => rdigests_calls g r.d2.2 (by omega) 32 w hh
  have hhd : (2147483647 < (r.num 4).1 → r.head = (r.num 4).2.fail 8) ∧ (¬ 2147483647 < (r.num 4).1 → r.head = (r.num 4).2) := ⟨fun h => by rw [Rd.head, if_pos h], fun h => by rw [Rd.head, if_neg h]⟩
  generalize r.head = rh at *
  generalize r.d1.1 = l1 at *
  generalize r.d1.2 = ra at *
  generalize r.d2.1 = l2 at *
  generalize r.d2.2 = rb at *
  generalize r.d3.1 = l3 at *
  generalize r.d3.2 = rc at *
  generalize (r.num 4).1 = m at *
  generalize (r.num 4).2 = rn at *
  have DA := hide dA
  have DB := hide dB
  have DC := hide dC
  clear dA dB dC r0 r1 r2 h hl
  by_cases hbig : 2147483647 < m
  case' pos =>
    have hrh := hide (hhd.1 hbig)
    have dd : decide ((2147483647 : Int) < (m : Int)) = true := by simp; omega
    clear hhd hbig
    go_enter Tryd.func26, Tryd.ntmps26
    go_wp2_with fail
    rw [show w.alloc (.cells #[.int .i64 0, .slice none 0 0, .slice none 0 0, .slice none 0 0] 33) = W0 from unhide HX0]
    refine (unhide HW).mono ?_
    rintro e wa ⟨rfl, ha, ta⟩
    go_wp2_with fail
    refine (fail_calls g rn 8 _ ha).mono ?_
    rintro e w1 ⟨rfl, h1, tb⟩
    rw [← unhide hrh] at h1
    have t1 := ta.trans tb
    clear ha ta tb hrh
  case' neg =>
    have hrh := hide (hhd.2 hbig)
    have dd : decide ((2147483647 : Int) < (m : Int)) = false := by simp; omega
    clear hhd hbig
    go_enter Tryd.func26, Tryd.ntmps26
    go_wp2_with fail
    rw [show w.alloc (.cells #[.int .i64 0, .slice none 0 0, .slice none 0 0, .slice none 0 0] 33) = W0 from unhide HX0]
    refine (unhide HW).mono ?_
    rintro e w1 ⟨rfl, h1, t1⟩
    rw [← unhide hrh] at h1
    clear hrh
  all_goals
    have q1 := t1.row (by omega) q0
    have T1 := t0.trans t1
    have z1 := t1.below.size
    clear t0 t1 q0
    go_wp2_with fail
    have g2 := al1 w1 (.cells #[.int .i64 (m : Int), .slice none 0 0, .slice none 0 0, .slice none 0 0] 33)
    have q2 := (Below.heap_alloc w1 (.cells #[.int .i64 (m : Int), .slice none 0 0, .slice none 0 0, .slice none 0 0] 33) w.heap.size (by omega)).trans q1
    have h2 := h1.alloc (.cells #[.int .i64 (m : Int), .slice none 0 0, .slice none 0 0, .slice none 0 0] 33)
    have T2 := T1.alloc (by omega) (.cells #[.int .i64 (m : Int), .slice none 0 0, .slice none 0 0, .slice none 0 0] 33)
    have z2 : (w1.alloc (.cells #[.int .i64 (m : Int), .slice none 0 0, .slice none 0 0, .slice none 0 0] 33)).heap.size = w1.heap.size + 1 := by simp
    refine (unhide DA (w1.alloc (.cells #[.int .i64 (m : Int), .slice none 0 0, .slice none 0 0, .slice none 0 0] 33)) h2).mono ?_
    generalize w1.alloc (.cells #[.int .i64 (m : Int), .slice none 0 0, .slice none 0 0, .slice none 0 0] 33) = W2 at *
    generalize hG : w1.heap.size = G at *
    rintro e w3 ⟨x1, k1, rfl, hk1, hx1, row1, h3, t3⟩
    have g3 := t3.row (by omega) g2
    have q3 := t3.row (by omega) q2
    have T3 := T2.trans t3
    have z3 := t3.below.size
    have c3 := (sig_cell g3).1 1 _ rfl
    have f3 := (sig_cell g3).2 1
    have HK1 := hide hk1
    clear g2 q1 q2 h1 h2 T1 T2 t3 hk1
    go_wp2_with fail
    have g4 := heap_setCell_same w3 G 1 _ _ (.slice (some ⟨x1, 0, none⟩) k1 k1) g3
    have q4 := (heap_setCell_other w3 ⟨G, 1, none⟩ w.heap.size (.slice (some ⟨x1, 0, none⟩) k1 k1) (by show _ ≠ G; omega)).trans q3
    have row1b := (heap_setCell_other w3 ⟨G, 1, none⟩ x1 (.slice (some ⟨x1, 0, none⟩) k1 k1) (by show _ ≠ G; omega)).trans row1
    have h4 := h3.other (o := 1) (G := G) (by omega) (.slice (some ⟨x1, 0, none⟩) k1 k1)
    have T4 := T3.setNew (G := G) (o := 1) (by omega) (by omega) (.slice (some ⟨x1, 0, none⟩) k1 k1)
    have z4 : (w3.setCell ⟨G, 1, none⟩ (.slice (some ⟨x1, 0, none⟩) k1 k1)).heap.size = w3.heap.size := World.size_setCell _ _ _
    refine (unhide DB (w3.setCell ⟨G, 1, none⟩ (.slice (some ⟨x1, 0, none⟩) k1 k1)) h4).mono ?_
    generalize w3.setCell ⟨G, 1, none⟩ (.slice (some ⟨x1, 0, none⟩) k1 k1) = W4 at *
    rintro e w5 ⟨x2, k2, rfl, hk2, hx2, row2, h5, t5⟩
    have g5 := t5.row (by omega) g4
    have q5 := t5.row (by omega) q4
    have row1c := t5.row (by omega) row1b
    have T5 := T4.trans t5
    have z5 := t5.below.size
    have c5 := (sig_cell g5).1 2 _ rfl
    have f5 := (sig_cell g5).2 2
    have HK2 := hide hk2
    have hx1z : x1 < w3.heap.size := (Array.getElem?_eq_some_iff.1 row1).1
    clear g3 g4 q3 q4 h3 h4 T3 T4 t5 hk2 c3 f3 row1 row1b
    go_wp2_with fail
    have g6 := heap_setCell_same w5 G 2 _ _ (.slice (some ⟨x2, 0, none⟩) k2 k2) g5
    have q6 := (heap_setCell_other w5 ⟨G, 2, none⟩ w.heap.size (.slice (some ⟨x2, 0, none⟩) k2 k2) (by show _ ≠ G; omega)).trans q5
    have row1d := (heap_setCell_other w5 ⟨G, 2, none⟩ x1 (.slice (some ⟨x2, 0, none⟩) k2 k2) (by show _ ≠ G; omega)).trans row1c
    have row2b := (heap_setCell_other w5 ⟨G, 2, none⟩ x2 (.slice (some ⟨x2, 0, none⟩) k2 k2) (by show _ ≠ G; omega)).trans row2
    have h6 := h5.other (o := 2) (G := G) (by omega) (.slice (some ⟨x2, 0, none⟩) k2 k2)
    have T6 := T5.setNew (G := G) (o := 2) (by omega) (by omega) (.slice (some ⟨x2, 0, none⟩) k2 k2)
    have z6 : (w5.setCell ⟨G, 2, none⟩ (.slice (some ⟨x2, 0, none⟩) k2 k2)).heap.size = w5.heap.size := World.size_setCell _ _ _
    refine (unhide DC (w5.setCell ⟨G, 2, none⟩ (.slice (some ⟨x2, 0, none⟩) k2 k2)) h6).mono ?_
    generalize w5.setCell ⟨G, 2, none⟩ (.slice (some ⟨x2, 0, none⟩) k2 k2) = W6 at *
    rintro e w7 ⟨x3, k3, rfl, hk3, hx3, row3, h7, t7⟩
    have g7 := t7.row (by omega) g6
    have q7 := t7.row (by omega) q6
    have row1e := t7.row (by omega) row1d
    have row2c := t7.row (by omega) row2b
    have T7 := T6.trans t7
    have z7 := t7.below.size
    have c7 := (sig_cell g7).1 3 _ rfl
    have f7 := (sig_cell g7).2 3
    have HK3 := hide hk3
    clear g5 g6 q5 q6 h5 h6 T5 T6 t7 hk3 c5 f5 row1c row1d row2 row2b
    go_wp2_with fail
    have g8 := heap_setCell_same w7 G 3 _ _ (.slice (some ⟨x3, 0, none⟩) k3 k3) g7
    have q8 := (heap_setCell_other w7 ⟨G, 3, none⟩ w.heap.size (.slice (some ⟨x3, 0, none⟩) k3 k3) (by show _ ≠ G; omega)).trans q7
    have row1f := (heap_setCell_other w7 ⟨G, 3, none⟩ x1 (.slice (some ⟨x3, 0, none⟩) k3 k3) (by show _ ≠ G; omega)).trans row1e
    have row2d := (heap_setCell_other w7 ⟨G, 3, none⟩ x2 (.slice (some ⟨x3, 0, none⟩) k3 k3) (by show _ ≠ G; omega)).trans row2c
    have row3b := (heap_setCell_other w7 ⟨G, 3, none⟩ x3 (.slice (some ⟨x3, 0, none⟩) k3 k3) (by show _ ≠ G; omega)).trans row3
    have h8 := h7.other (o := 3) (G := G) (by omega) (.slice (some ⟨x3, 0, none⟩) k3 k3)
    have T8 := T7.setNew (G := G) (o := 3) (by omega) (by omega) (.slice (some ⟨x3, 0, none⟩) k3 k3)
    refine (failed_calls g rc (w7.setCell ⟨G, 3, none⟩ (.slice (some ⟨x3, 0, none⟩) k3 k3)) h8).mono ?_
    generalize w7.setCell ⟨G, 3, none⟩ (.slice (some ⟨x3, 0, none⟩) k3 k3) = W8 at *
    rintro e w9 ⟨rfl, rfl⟩
    have c80 := (sig_cell q8).1 0 _ rfl
    have c81 := (sig_cell q8).1 1 _ rfl
    have c82 := (sig_cell q8).1 2 _ rfl
    have c83 := (sig_cell q8).1 3 _ rfl
    have f8 := (sig_cell q8).2
    have d80 : w9.cell? ⟨G, 0, none⟩ = some (.int .i64 (m : Int)) := (sig_cell g8).1 0 _ rfl
    have d81 : w9.cell? ⟨G, 1, none⟩ = some (.slice (some ⟨x1, 0, none⟩) k1 k1) := (sig_cell g8).1 1 _ rfl
    have d82 : w9.cell? ⟨G, 2, none⟩ = some (.slice (some ⟨x2, 0, none⟩) k2 k2) := (sig_cell g8).1 2 _ rfl
    have d83 : w9.cell? ⟨G, 3, none⟩ = some (.slice (some ⟨x3, 0, none⟩) k3 k3) := (sig_cell g8).1 3 _ rfl
    have Q8 := hide q8
    have H8 := hide h8
    have hRg : w.heap.size ≠ g := by omega
    clear g7 q7 h7 T7 c7 f7 row1e row2c row3 q8 g8
    by_cases he : rc.err = 0
    · have ee : (rc.err != 0) = false := by simpa using he
      rw [ee]
      go_wp2
      have W4 : ∀ v0 v1 v2 v3 : Value, Turned g w ((((w9.setCell ⟨w.heap.size, 0, none⟩ v0).setCell ⟨w.heap.size, 1, none⟩ v1).setCell ⟨w.heap.size, 2, none⟩ v2).setCell ⟨w.heap.size, 3, none⟩ v3) ∧ RdAt ((((w9.setCell ⟨w.heap.size, 0, none⟩ v0).setCell ⟨w.heap.size, 1, none⟩ v1).setCell ⟨w.heap.size, 2, none⟩ v2).setCell ⟨w.heap.size, 3, none⟩ v3) g rc ∧ ∀ k o, k ≠ w.heap.size → w9.heap[k]? = some o → ((((w9.setCell ⟨w.heap.size, 0, none⟩ v0).setCell ⟨w.heap.size, 1, none⟩ v1).setCell ⟨w.heap.size, 2, none⟩ v2).setCell ⟨w.heap.size, 3, none⟩ v3).heap[k]? = some o := fun v0 v1 v2 v3 =>
        ⟨(((T8.setNew (Nat.le_refl _) (by omega) _).setNew (Nat.le_refl _) (by omega) _).setNew (Nat.le_refl _) (by omega) _).setNew (Nat.le_refl _) (by omega) _,
          ((((unhide H8).other (Ne.symm hRg) _).other (Ne.symm hRg) _).other (Ne.symm hRg) _).other (Ne.symm hRg) _,
          fun k o hk ho => by
            rw [heap_setCell_other _ _ _ _ (by show k ≠ _; exact hk), heap_setCell_other _ _ _ _ (by show k ≠ _; exact hk), heap_setCell_other _ _ _ _ (by show k ≠ _; exact hk), heap_setCell_other _ _ _ _ (by show k ≠ _; exact hk)]; exact ho⟩
      refine bodyPost_ret (results_cell_row rfl _ _ w.heap.size _ _ _ _ rfl (set4 _ _ _ _ _ _ _ _ _ _ _ (unhide Q8)) Tryd.underlying33 rfl (unhide HI)) rfl ⟨_, rfl, (W4 _ _ _ _).2.1, (W4 _ _ _ _).1, fun hh => absurd he hh, fun _ => ⟨_, _, _, rfl, ⟨_, _, rfl, unhide HK1, by omega, (W4 _ _ _ _).2.2 _ _ (by omega) row1f⟩, ⟨_, _, rfl, unhide HK2, by omega, (W4 _ _ _ _).2.2 _ _ (by omega) row2d⟩, ⟨_, _, rfl, unhide HK3, by omega, (W4 _ _ _ _).2.2 _ _ (by omega) row3b⟩⟩⟩
    · have ee : (rc.err != 0) = true := by simpa using he
      rw [ee]
      go_wp2
      refine bodyPost_ret (results_cell_row rfl _ _ w.heap.size _ _ _ _ rfl (set4 _ _ _ _ _ _ _ _ _ _ _ (unhide Q8)) Tryd.underlying33 rfl (unhide HI)) rfl ⟨_, rfl, ((((unhide H8).other (Ne.symm hRg) _).other (Ne.symm hRg) _).other (Ne.symm hRg) _).other (Ne.symm hRg) _, (((T8.setNew (Nat.le_refl _) (by omega) _).setNew (Nat.le_refl _) (by omega) _).setNew (Nat.le_refl _) (by omega) _).setNew (Nat.le_refl _) (by omega) _, fun _ => rfl, fun hh => absurd hh he⟩
end Go.Proofs.YtmgacpcpnijgdaaDoor

namespace Go.Proofs.YtmgacpcpnijgdaaDoor
open Go.RowKit
set_option linter.unusedSimpArgs false
set_option linter.unusedVariables false

theorem pBig_snoc (m b k : Nat) (hb : b < 256) : pBig (m * 256 + b) (k + 1) = pBig m k ++ [UInt8.ofNat b] := by
  unfold pBig
  rw [List.range_succ, List.map_append]
  congr 1
  · apply List.map_congr_left
    intro i hi
    have hi : i < k := List.mem_range.1 hi
    rw [show k + 1 - 1 - i = (k - 1 - i) + 1 by omega, Nat.mul_add, Nat.pow_add, Nat.mul_comm (2 ^ (8 * (k - 1 - i))), ← Nat.div_div_eq_div_mul, show (m * 256 + b) / 2 ^ (8 * 1) = m by omega]
  · simp only [List.map_cons, List.map_nil, Nat.add_sub_cancel, Nat.sub_self, Nat.mul_zero, Nat.pow_zero, Nat.div_one]
    congr 1
    apply UInt8.toNat.inj
    simp only [UInt8.toNat_ofNat']
    omega
theorem pBig_pNum : ∀ (k : Nat) (l : List UInt8), l.length = k → pBig (pNum l) k = l
  | 0, l, h => by rw [List.eq_nil_of_length_eq_zero h]; rfl
  | k + 1, l, h => by
    obtain ⟨a, b, rfl⟩ : ∃ a b, l = a ++ [b] := ⟨l.dropLast, l.getLast (by intro h0; rw [h0] at h; cases h), (List.dropLast_concat_getLast _).symm⟩
    have ha : a.length = k := by simpa using h
    rw [pNum_snoc, pBig_snoc _ _ _ b.toNat_lt, pBig_pNum k a ha]; simp
theorem pNum_pBig : ∀ (k n : Nat), n < 256 ^ k → pNum (pBig n k) = n
  | 0, n, h => by
    have : n = 0 := by simpa using h
    subst this; rfl
  | k + 1, n, h => by
    have e : n = n / 256 * 256 + n % 256 := by omega
    have h2 : n / 256 < 256 ^ k := by rw [Nat.pow_succ] at h; omega
    rw [e, pBig_snoc _ _ _ (by omega), pNum_snoc, pNum_pBig k _ h2]
    simp only [UInt8.toNat_ofNat']
    omega

theorem Rd.take_ok (r : Rd) (n : Nat) (h : (r.take n).2.err = 0) : r.err = 0 ∧ r.rest = (r.take n).1 ++ (r.take n).2.rest ∧ (r.take n).1.length = n := by
  unfold Rd.take at *
  split at h
  · rename_i h0; exact absurd h h0
  · rename_i h0
    split at h
    · cases h
    · rename_i h1
      rw [if_neg h0, if_neg h1]
      exact ⟨by omega, (List.take_append_drop _ _).symm, by simp; omega⟩
theorem Rd.num_ok (r : Rd) (n : Nat) (h : (r.num n).2.err = 0) : r.err = 0 ∧ r.rest = pBig (r.num n).1 n ++ (r.num n).2.rest := by
  obtain ⟨h0, h1, h2⟩ := r.take_ok n h
  refine ⟨h0, ?_⟩
  show r.rest = pBig (pNum (r.take n).1) n ++ _
  rw [pBig_pNum n _ h2]; exact h1
theorem Rd.fail_bad (r : Rd) (e : Int) (he : e ≠ 0) : (r.fail e).err ≠ 0 := by
  unfold Rd.fail
  split
  · exact he
  · assumption
theorem Rd.len_ok (r : Rd) (most : Int) (h : (r.len most).2.err = 0) : r.err = 0 ∧ r.rest = pBig (r.len most).1 4 ++ (r.len most).2.rest := by
  unfold Rd.len at *
  split at h
  · exact absurd h (Rd.fail_bad _ _ (by decide))
  · rename_i hc
    simp only [if_neg hc]
    exact r.num_ok 4 h
theorem Rd.text_ok (r : Rd) (most : Int) (h : (r.text most).2.err = 0) : r.err = 0 ∧ r.rest = pText4 (r.text most).1 ++ (r.text most).2.rest := by
  obtain ⟨h0, h1, h2⟩ := Rd.take_ok _ _ h
  obtain ⟨h3, h4⟩ := r.len_ok most h0
  refine ⟨h3, ?_⟩
  rw [h4, h1, pText4, List.append_assoc]
  show _ = pBig ((r.len most).2.take (r.len most).1).1.length 4 ++ _
  rw [h2]; rfl
theorem Rd.digests_ok (r : Rd) (most : Int) (h : (r.digests most).2.err = 0) : r.err = 0 ∧ r.rest = pDigests (r.digests most).1 ++ (r.digests most).2.rest := by
  obtain ⟨h0, h1, h2⟩ := Rd.take_ok _ _ h
  obtain ⟨h3, h4⟩ := r.len_ok most h0
  refine ⟨h3, ?_⟩
  rw [h4, h1, pDigests, List.append_assoc]
  show _ = pBig (((r.len most).2.take (32 * (r.len most).1)).1.length / 32) 4 ++ _
  rw [h2, Nat.mul_div_cancel_left _ (by decide)]; rfl
theorem Rd.head_ok (r : Rd) (h : r.head.err = 0) : r.err = 0 ∧ (r.num 4).1 ≤ 2147483647 ∧ r.rest = pBig (r.num 4).1 4 ++ r.head.rest := by
  unfold Rd.head at *
  split at h
  · exact absurd h (Rd.fail_bad _ _ (by decide))
  · rename_i hc
    simp only [if_neg hc]
    have := r.num_ok 4 h
    exact ⟨this.1, by omega, this.2⟩
theorem Rd.sig_ok (r : Rd) (h : r.d3.2.err = 0) : r.err = 0 ∧ (r.num 4).1 ≤ 2147483647 ∧ r.rest = pSig ((r.num 4).1 : Int) r.d1.1 r.d2.1 r.d3.1 ++ r.d3.2.rest := by
  obtain ⟨a3, b3⟩ := r.d2.2.digests_ok 32 h
  obtain ⟨a2, b2⟩ := r.d1.2.digests_ok 32 a3
  obtain ⟨a1, b1⟩ := r.head.digests_ok 32 a2
  obtain ⟨a0, c0, b0⟩ := r.head_ok a1
  refine ⟨a0, c0, ?_⟩
  have b3' : r.d2.2.rest = pDigests r.d3.1 ++ r.d3.2.rest := b3
  have b2' : r.d1.2.rest = pDigests r.d2.1 ++ r.d2.2.rest := b2
  have b1' : r.head.rest = pDigests r.d1.1 ++ r.d1.2.rest := b1
  rw [b0, b1', b2', b3', pSig, show ((r.num 4).1 : Int) % 4294967296 = ((r.num 4).1 : Int) by omega, Int.toNat_natCast]
  simp only [List.append_assoc]
theorem Rd.end_ok (r : Rd) (h : r.end' = 0) : r.err = 0 ∧ r.rest = [] := by
  unfold Rd.end' at h
  split at h
  · rename_i h0; exact absurd h h0
  · rename_i h0
    split at h
    · cases h
    · rename_i h1; exact ⟨by omega, by simpa using h1⟩
end Go.Proofs.YtmgacpcpnijgdaaDoor

namespace Go.Proofs.YtmgacpcpnijgdaaDoor
open Go Go.RowKit
set_option linter.unusedSimpArgs false
set_option linter.unusedVariables false

def z32 : List UInt8 := List.replicate 32 0
def updO : Array Value := updc 0 z32 z32 sig0
def stopO : Array Value := stopc 0 z32 0 sig0
def Rd.u1 (r : Rd) : Nat × Rd := r.num 4
def Rd.u2 (r : Rd) : List UInt8 × Rd := r.u1.2.take 32
def Rd.u3 (r : Rd) : List UInt8 × Rd := r.u2.2.take 32
def Rd.s3 (r : Rd) : Nat × Rd := r.u2.2.num 4
theorem uover_calls (l : List UInt8) (w : World) :
    Calls Tryd.prog 23 #[.string (str l)] w fun e w' => e = .returned (.pointer (some ⟨w.heap.size, 0, none⟩)) ∧ w' = w.alloc (.cells (⟨l, 0⟩ : Rd).cells 84) := by
  unfold Rd.cells
  simp only
  go_enter Tryd.func23, Tryd.ntmps23
  go_wp2
  go_ret
  exact ⟨rfl, rfl⟩
/-- What is read into: the result, the row, the reader. -/
structure GSt (T : TypeId) (Z : Array Value) (w : World) (N : Nat) (wi : World) (row : Array Value) (r : Rd) : Prop where
  below : Below N w wi
  res : wi.heap[N]? = some (.cells Z T (0, 0))
  x : wi.heap[N + 1]? = some (.cells row T (0, 0))
  rd : RdAt wi (N + 1 + 1) r
theorem GSt.turn {T : TypeId} {Z : Array Value} {w : World} {N : Nat} {wi w' : World} {row : Array Value} {r r' : Rd} (h : GSt T Z w N wi row r) (R : RdAt w' (N + 1 + 1) r') (H : Turned (N + 1 + 1) wi w') : GSt T Z w N w' row r' :=
  ⟨H.under h.below (by omega), H.row (by omega) h.res, H.row (by omega) h.x, R⟩
theorem GSt.set {T : TypeId} {Z : Array Value} {w : World} {N : Nat} {wi : World} {row row' : Array Value} {r : Rd} (h : GSt T Z w N wi row r) (j : Nat) (v : Value) (e : row.setIfInBounds j v = row') : GSt T Z w N (wi.setCell ⟨N + 1, j, none⟩ v) row' r := by
  refine ⟨h.below.setCell (p := ⟨N + 1, j, none⟩) (by show N ≤ N + 1; omega) _, ?_, ?_, h.rd.other (by omega) _⟩
  · rw [heap_setCell_other _ _ _ _ (by show N ≠ N + 1; omega)]; exact h.res
  · rw [← e]; exact heap_setCell_same _ _ _ _ _ _ h.x
theorem GSt.part {T : TypeId} {Z : Array Value} {w : World} {N : Nat} {wi w' : World} {row row' : Array Value} {r : Rd} (h : GSt T Z w N wi row r) (h1 : w'.heap[N + 1]? = some (.cells row' T (0, 0))) (h2 : ∀ k, k ≠ N + 1 → w'.heap[k]? = wi.heap[k]?) (h4 : ∀ B, B ≤ N + 1 → Below B wi w') : GSt T Z w N w' row' r :=
  ⟨h.below.trans (h4 N (by omega)), (h2 N (by omega)).trans h.res, h1, (h2 (N + 1 + 1) (by omega)).trans h.rd⟩
theorem GSt.frozen {T : TypeId} {Z : Array Value} {w : World} {N : Nat} {wi : World} {row : Array Value} {r : Rd} (h : GSt T Z w N wi row r) (j : Nat) : wi.frozen? ⟨N + 1, j, none⟩ = false := frozen_of_row _ _ _ _ _ h.x
/-- A signature that was read, as cells. -/
theorem sig_cells {B : Nat} {w : World} {r : Rd} {v : Value} (h0 : r.d3.2.err ≠ 0 → v = .agg sig0) (h1 : r.d3.2.err = 0 → ∃ v1 v2 v3, v = .agg #[.int .i64 ((r.num 4).1 : Int), v1, v2, v3] ∧ NewD B w v1 r.d1.1 ∧ NewD B w v2 r.d2.1 ∧ NewD B w v3 r.d3.1) :
    ∃ cs : Array Value, v = .agg cs ∧ Hid (cs.size = 4) ∧ cs.all (·.oneCell') = true ∧ Hid (r.d3.2.err = 0 → ∃ v1 v2 v3, cs = #[.int .i64 ((r.num 4).1 : Int), v1, v2, v3] ∧ NewD B w v1 r.d1.1 ∧ NewD B w v2 r.d2.1 ∧ NewD B w v3 r.d3.1) := by
  by_cases h : r.d3.2.err = 0
  · obtain ⟨v1, v2, v3, rfl, e1, e2, e3⟩ := h1 h
    refine ⟨_, rfl, rfl, ?_, fun _ => ⟨v1, v2, v3, rfl, e1, e2, e3⟩⟩
    simp [e1.one, e2.one, e3.one, show (Value.int .i64 ((r.num 4).1 : Int)).oneCell' = true from rfl]
  · exact ⟨_, h0 h, rfl, by simp [sig0, Value.oneCell'], fun h' => absurd h' h⟩
theorem digInfo' (d : List UInt8) (h : d.length = 32) : (Tryd.prog.info? 23).map (·.size) = some (bc d).size := by rw [bc_size, h]; kernel_rfl
theorem sig_info' (cs : Array Value) (h : cs.size = 4) : (Tryd.prog.info? 33).map (·.size) = some cs.size := by rw [h]; kernel_rfl
theorem Rd.u2_len (r : Rd) : (pad32 r.u2.1).length = 32 := pad32_length _ (r.u1.2.take_length 32)
theorem Rd.u3_len (r : Rd) : (pad32 r.u3.1).length = 32 := pad32_length _ (r.u2.2.take_length 32)
set_option maxHeartbeats 4000000 in
set_option maxRecDepth 100000 in
theorem uread_calls (l : List UInt8) (hl : l.length ≤ 4611686018427387904) (w : World) :
    Calls Tryd.prog 9 #[.string (str l)] w fun e w' => ∃ row : Array Value, e = .returned (.tuple #[.agg row, .int .i64 ((⟨l, 0⟩ : Rd).u3.2.d3.2.end')]) ∧ Below w.heap.size w w' ∧ Hid ((⟨l, 0⟩ : Rd).u3.2.d3.2.end' ≠ 0 → row = updO) ∧ Hid ((⟨l, 0⟩ : Rd).u3.2.d3.2.end' = 0 → ∃ v1 v2 v3, row = updc (⟨l, 0⟩ : Rd).u1.1 (pad32 (⟨l, 0⟩ : Rd).u2.1) (pad32 (⟨l, 0⟩ : Rd).u3.1) #[.int .i64 (((⟨l, 0⟩ : Rd).u3.2.num 4).1 : Int), v1, v2, v3] ∧ NewD w.heap.size w' v1 (⟨l, 0⟩ : Rd).u3.2.d1.1 ∧ NewD w.heap.size w' v2 (⟨l, 0⟩ : Rd).u3.2.d2.1 ∧ NewD w.heap.size w' v3 (⟨l, 0⟩ : Rd).u3.2.d3.1) := by
  obtain ⟨r0, h0⟩ : ∃ r, (⟨l, 0⟩ : Rd) = r := ⟨_, rfl⟩
  have hl0 : r0.rest.length ≤ 4611686018427387904 := by rw [← h0]; exact hl
  have ko := uover_calls l
  rw [h0] at ko ⊢
  have m1 : r0.u1.2.rest.length ≤ r0.rest.length := Rd.take_rest _ _
  have m2 : r0.u2.2.rest.length ≤ r0.u1.2.rest.length := Rd.take_rest _ _
  have m3 : r0.u3.2.rest.length ≤ r0.u2.2.rest.length := Rd.take_rest _ _
  have k1 := hide fun W (h : RdAt W (w.heap.size + 1 + 1) r0) => rword_calls _ r0 hl0 W h
  have k2 := hide fun W (h : RdAt W (w.heap.size + 1 + 1) r0.u1.2) => rdigest_calls _ r0.u1.2 (by omega) W h
  have k3 := hide fun W (h : RdAt W (w.heap.size + 1 + 1) r0.u2.2) => rdigest_calls _ r0.u2.2 (by omega) W h
  have k4 := hide fun W (h : RdAt W (w.heap.size + 1 + 1) r0.u3.2) => rsigN_calls _ r0.u3.2 (by omega) W h
  have k5 := hide fun W (h : RdAt W (w.heap.size + 1 + 1) r0.u3.2.d3.2) => rdend_calls _ r0.u3.2.d3.2 W h
  have sg := fun (B : Nat) (w : World) (v : Value) h0 h1 => @sig_cells B w r0.u3.2 v h0 h1
  have e1 : r0.num 4 = r0.u1 := rfl
  have e2 : r0.u1.2.take 32 = r0.u2 := rfl
  have e3 : r0.u2.2.take 32 = r0.u3 := rfl
  rw [e1] at k1
  rw [e2] at k2
  rw [e3] at k3
  have p2 := r0.u2_len
  have p3 := r0.u3_len
  have herr : r0.u3.2.d3.2.end' = 0 → r0.u3.2.d3.2.err = 0 := fun h => (Rd.end_ok _ h).1
  obtain ⟨E, hE0⟩ : ∃ E, r0.u3.2.d3.2.end' = E := ⟨_, rfl⟩
  rw [hE0] at k5 herr ⊢
  have SG := hide sg
  have HE := hide herr
  clear m1 m2 m3 e1 e2 e3 hE0 h0 hl0 hl sg herr
  generalize r0.u3.2.d3 = x4 at *
  generalize r0.u3.2.d2 = x5 at *
  generalize r0.u3.2.d1 = x6 at *
  generalize (r0.u3.2.num 4).1 = x7 at *
  generalize r0.u3 = x3 at *
  generalize r0.u2 = x2 at *
  generalize r0.u1 = x1 at *
  obtain ⟨a1, r1⟩ := x1
  obtain ⟨a2, r2⟩ := x2
  obtain ⟨a3, r3⟩ := x3
  obtain ⟨a4, r4⟩ := x4
  simp only at *
  generalize pad32 a2 = A2 at *
  generalize pad32 a3 = A3 at *
  have L0 : GSt 35 updO w w.heap.size (((w.alloc (.cells updO 35)).alloc (.cells updO 35)).alloc (.cells r0.cells 84)) updO r0 :=
    ⟨bel3 w _ _ _, (al3 w _ _ _).1, (al3 w _ _ _).2.1, (al3 w _ _ _).2.2⟩
  have HL0 := hide L0
  have Ko := hide ko
  have Pa := hide p2
  have hi2 := digInfo' A2 p2
  have Pb := hide p3
  have hi3 := digInfo' A3 p3
  clear L0 ko p2 p3
  go_enter Tryd.func9, Tryd.ntmps9
  go_wp2_with fail
  refine (unhide Ko _).mono ?_
  rintro e w0 ⟨rfl, h0⟩
  have L0 : GSt 35 updO w w.heap.size w0 updO r0 := by rw [h0]; exact unhide HL0
  clear h0 HL0
  simp only [World.size_alloc]
  go_wp2_with fail
  refine (unhide k1 _ L0.rd).mono ?_
  rintro e w1 ⟨rfl, R, H⟩
  have M := L0.turn R H
  have f := M.frozen 0
  have c : w1.cell? ⟨w.heap.size + 1, 0, none⟩ = some (.int .u32 0) := by rw [cell_of_row _ _ _ _ _ _ M.x]; rfl
  have L1 := M.set (row' := updc a1 z32 z32 sig0) 0 (.int .u32 (a1 : Int)) (updc_set 0 a1 z32 z32 sig0)
  clear L0 R H M k1
  go_wp2_with fail
  refine (unhide k2 _ L1.rd).mono ?_
  rintro e w2 ⟨rfl, R, H⟩
  have M := L1.turn R H
  clear L1 R H k2 f c
  have MX : w2.heap[w.heap.size + 1]? = some (.cells (#[Value.int .u32 (a1 : Int)] ++ bc z32 ++ (bc z32 ++ sig0)) 35 (0, 0)) := by
    rw [M.x]; unfold updc; rw [Array.append_assoc (xs := #[Value.int .u32 (a1 : Int)] ++ bc z32)]
  go_wp2_with (refine wpList_store_part rfl 23 (.tmp 14) (.tmp 13) rfl (w.heap.size + 1) 1 #[Value.int .u32 (a1 : Int)] (bc z32) (bc z32 ++ sig0) (bc A2) _ rfl rfl rfl (by rw [bc_size, bc_size, unhide Pa]; rfl) MX hi2 (bc_oneCell _) ?_; intro w3 g1 g2 g3 g4; rw [← Array.append_assoc] at g1; have L2 := M.part (row' := updc a1 A2 z32 sig0) g1 g2 g4; clear M MX g1 g2 g3 g4)
  refine (unhide k3 _ L2.rd).mono ?_
  rintro e w4 ⟨rfl, R, H⟩
  have M := L2.turn R H
  clear L2 R H k3
  go_wp2_with (refine wpList_store_part rfl 23 (.tmp 17) (.tmp 16) rfl (w.heap.size + 1) 33 (#[Value.int .u32 (a1 : Int)] ++ bc A2) (bc z32) sig0 (bc A3) _ rfl rfl (by simp [bc_size, unhide Pa]) (by rw [bc_size, bc_size, unhide Pb]; rfl) M.x hi3 (bc_oneCell _) ?_; intro w5 g1 g2 g3 g4; have L3 := M.part (row' := updc a1 A2 A3 sig0) g1 g2 g4; clear M g1 g2 g3 g4)
  refine (unhide k4 _ L3.rd).mono ?_
  rintro e w6 ⟨v, rfl, R, H, s0, s1⟩
  obtain ⟨cs, rfl, csz, cs1, csd⟩ := unhide SG _ _ _ s0 s1
  have zz := L3.rd.lt
  have M := L3.turn R H
  have his := sig_info' cs (unhide csz)
  clear L3 R H k4 s0 s1 SG
  have HD : Hid (∀ W C, (r4.err = 0 → ∃ v1 v2 v3, C = #[.int .i64 (x7 : Int), v1, v2, v3] ∧ NewD w5.heap.size w6 v1 x6.1 ∧ NewD w5.heap.size w6 v2 x5.1 ∧ NewD w5.heap.size w6 v3 a4) → (∀ k, k ≠ w.heap.size + 1 → W.heap[k]? = w6.heap[k]?) → W.heap.size = w6.heap.size → Hid (r4.err = 0 → ∃ v1 v2 v3, C = #[.int .i64 (x7 : Int), v1, v2, v3] ∧ NewD (w.heap.size + 2) W v1 x6.1 ∧ NewD (w.heap.size + 2) W v2 x5.1 ∧ NewD (w.heap.size + 2) W v3 a4)) := fun W C hc g2 g3 he => by
    obtain ⟨v1, v2, v3, e, d1, d2, d3⟩ := hc he
    exact ⟨v1, v2, v3, e, d1.keep (fun k hk _ => g2 k (by omega)) (by omega), d2.keep (fun k hk _ => g2 k (by omega)) (by omega), d3.keep (fun k hk _ => g2 k (by omega)) (by omega)⟩
  have MX : w6.heap[w.heap.size + 1]? = some (.cells ((#[Value.int .u32 (a1 : Int)] ++ bc A2 ++ bc A3) ++ sig0 ++ #[]) 35 (0, 0)) := by
    rw [M.x, Array.append_empty]; rfl
  go_wp2_with (refine wpList_store_part rfl 33 (.tmp 20) (.tmp 19) rfl (w.heap.size + 1) 65 (#[Value.int .u32 (a1 : Int)] ++ bc A2 ++ bc A3) sig0 #[] cs _ rfl rfl (by simp [bc_size, unhide Pa, unhide Pb]) (by rw [unhide csz]; rfl) MX his cs1 ?_; intro w7 g1 g2 g3 g4; rw [Array.append_empty] at g1; have L4 := M.part (row' := updc a1 A2 A3 cs) g1 g2 g4; have csd' := unhide HD w7 cs (unhide csd) g2 g3; clear M MX g1 g2 g3 g4 csd)
  refine (unhide k5 _ L4.rd).mono ?_
  rintro e w8 ⟨rfl, h8⟩
  have q0 := L4.res
  have q1 := L4.x
  have hb := L4.below
  rw [h8]
  clear k5 L4 h8
  have hsz := updc_size a1 A2 A3 (unhide Pa) (unhide Pb) cs (unhide csz)
  have hir := upd_info _ hsz
  have hor := updc_one a1 A2 A3 cs cs1
  have hiz := upd_info updO rfl
  have hoz : updO.all (·.oneCell') = true := updc_one _ _ _ _ (by simp [sig0, Value.oneCell'])
  have hzz : Hid (updO.size = (updc a1 A2 A3 cs).size) := by rw [hsz]; rfl
  obtain ⟨ROW, hROW⟩ : ∃ R, updc a1 A2 A3 cs = R := ⟨_, rfl⟩
  rw [hROW] at q1 hir hor hzz
  have HR := hide hROW
  clear hsz hROW
  by_cases hE : E = 0
  · have hE' : (E != 0) = false := by simp [hE]
    have herr := unhide HE hE
    have hfin := unhide csd' herr
    have HF := hide hfin
    have HEE := hide hE
    clear hE herr hfin csd' HE
    go_wp2_with (first
      | (refine wpList_load_row rfl 35 (.tmp 4) rfl (w.heap.size + 1) rfl 35 ROW (0, 0) _ q1 Tryd.underlying35 rfl hir ?_)
      | (refine wpList_store_row rfl 35 (.tmp 2) (.tmp 27) rfl w.heap.size ROW rfl rfl 35 _ q0 hir (unhide hzz) hor ?_))
    refine bodyPost_ret (results_row_tmp rfl _ _ w.heap.size _ _ _ _ rfl (setRow_heap _ _ _ _ _ _ q0) Tryd.underlying35 rfl hir) rfl ⟨ROW, by rw [unhide HEE]; rfl, below_setRow hb (Nat.le_refl _) _, fun h => absurd (unhide HEE) h, fun _ => ?_⟩
    obtain ⟨v1, v2, v3, e, d1, d2, d3⟩ := unhide HF
    exact ⟨v1, v2, v3, by rw [← unhide HR, e], d1.keep (fun k hk _ => setRow_other _ _ _ _ (by omega)) (by omega), d2.keep (fun k hk _ => setRow_other _ _ _ _ (by omega)) (by omega), d3.keep (fun k hk _ => setRow_other _ _ _ _ (by omega)) (by omega)⟩
  · have hE' : (E != 0) = true := by simp [hE]
    have HEE := hide hE
    clear hE csd' HE
    go_wp2_with (refine wpList_store_row rfl 35 (.tmp 2) (.tmp 25) rfl w.heap.size updO rfl rfl 35 _ q0 hiz rfl hoz ?_)
    exact bodyPost_ret (results_row_tmp rfl _ _ w.heap.size _ _ _ _ rfl (setRow_heap _ _ _ _ _ _ q0) Tryd.underlying35 rfl hiz) rfl ⟨updO, rfl, below_setRow hb (Nat.le_refl _) _, fun _ => rfl, fun h => absurd h (unhide HEE)⟩
/-- What is wrong with the bytes of a stop. -/
def pStopE (r : Rd) : Int := if r.s3.2.d3.2.end' ≠ 0 then r.s3.2.d3.2.end' else if 2147483647 < r.s3.1 then 8 else 0
set_option maxHeartbeats 4000000 in
set_option maxRecDepth 100000 in
theorem sread_calls (l : List UInt8) (hl : l.length ≤ 4611686018427387904) (w : World) :
    Calls Tryd.prog 11 #[.string (str l)] w fun e w' => ∃ row : Array Value, e = .returned (.tuple #[.agg row, .int .i64 (pStopE (⟨l, 0⟩ : Rd))]) ∧ Below w.heap.size w w' ∧ Hid (pStopE (⟨l, 0⟩ : Rd) ≠ 0 → row = stopO) ∧ Hid (pStopE (⟨l, 0⟩ : Rd) = 0 → ∃ v1 v2 v3, row = stopc (⟨l, 0⟩ : Rd).u1.1 (pad32 (⟨l, 0⟩ : Rd).u2.1) ((⟨l, 0⟩ : Rd).s3.1 : Int) #[.int .i64 (((⟨l, 0⟩ : Rd).s3.2.num 4).1 : Int), v1, v2, v3] ∧ NewD w.heap.size w' v1 (⟨l, 0⟩ : Rd).s3.2.d1.1 ∧ NewD w.heap.size w' v2 (⟨l, 0⟩ : Rd).s3.2.d2.1 ∧ NewD w.heap.size w' v3 (⟨l, 0⟩ : Rd).s3.2.d3.1) := by
  obtain ⟨r0, h0⟩ : ∃ r, (⟨l, 0⟩ : Rd) = r := ⟨_, rfl⟩
  have hl0 : r0.rest.length ≤ 4611686018427387904 := by rw [← h0]; exact hl
  have ko := uover_calls l
  rw [h0] at ko ⊢
  have m1 : r0.u1.2.rest.length ≤ r0.rest.length := Rd.take_rest _ _
  have m2 : r0.u2.2.rest.length ≤ r0.u1.2.rest.length := Rd.take_rest _ _
  have m3 : r0.s3.2.rest.length ≤ r0.u2.2.rest.length := Rd.take_rest _ _
  have k1 := hide fun W (h : RdAt W (w.heap.size + 1 + 1) r0) => rword_calls _ r0 hl0 W h
  have k2 := hide fun W (h : RdAt W (w.heap.size + 1 + 1) r0.u1.2) => rdigest_calls _ r0.u1.2 (by omega) W h
  have k3 := hide fun W (h : RdAt W (w.heap.size + 1 + 1) r0.u2.2) => rword_calls _ r0.u2.2 (by omega) W h
  have k4 := hide fun W (h : RdAt W (w.heap.size + 1 + 1) r0.s3.2) => rsigN_calls _ r0.s3.2 (by omega) W h
  have k5 := hide fun W (h : RdAt W (w.heap.size + 1 + 1) r0.s3.2.d3.2) => rdend_calls _ r0.s3.2.d3.2 W h
  have sg := fun (B : Nat) (w : World) (v : Value) h0 h1 => @sig_cells B w r0.s3.2 v h0 h1
  have e1 : r0.num 4 = r0.u1 := rfl
  have e2 : r0.u1.2.take 32 = r0.u2 := rfl
  have e3 : r0.u2.2.num 4 = r0.s3 := rfl
  rw [e1] at k1
  rw [e2] at k2
  rw [e3] at k3
  have p2 := r0.u2_len
  have w3 : r0.s3.1 < 4294967296 := Rd.num_lt _ 4
  have herr : r0.s3.2.d3.2.end' = 0 → r0.s3.2.d3.2.err = 0 := fun h => (Rd.end_ok _ h).1
  obtain ⟨E, hE0⟩ : ∃ E, r0.s3.2.d3.2.end' = E := ⟨_, rfl⟩
  rw [hE0] at k5 herr 
  obtain ⟨EE, hEE⟩ : ∃ EE, pStopE r0 = EE := ⟨_, rfl⟩
  rw [hEE]
  unfold pStopE at hEE
  rw [hE0] at hEE
  have HEE0 := hide hEE
  clear hEE
  have SG := hide sg
  have HE := hide herr
  clear m1 m2 m3 e1 e2 e3 hE0 h0 hl0 hl sg herr
  generalize r0.s3.2.d3 = x4 at *
  generalize r0.s3.2.d2 = x5 at *
  generalize r0.s3.2.d1 = x6 at *
  generalize (r0.s3.2.num 4).1 = x7 at *
  generalize r0.s3 = x3 at *
  generalize r0.u2 = x2 at *
  generalize r0.u1 = x1 at *
  obtain ⟨a1, r1⟩ := x1
  obtain ⟨a2, r2⟩ := x2
  obtain ⟨a3, r3⟩ := x3
  obtain ⟨a4, r4⟩ := x4
  simp only at *
  generalize pad32 a2 = A2 at *
  have L0 : GSt 40 stopO w w.heap.size (((w.alloc (.cells stopO 40)).alloc (.cells stopO 40)).alloc (.cells r0.cells 84)) stopO r0 :=
    ⟨bel3 w _ _ _, (al3 w _ _ _).1, (al3 w _ _ _).2.1, (al3 w _ _ _).2.2⟩
  have HL0 := hide L0
  have Ko := hide ko
  have Pa := hide p2
  have hi2 := digInfo' A2 p2
  clear L0 ko p2 
  go_enter Tryd.func11, Tryd.ntmps11
  go_wp2_with fail
  refine (unhide Ko _).mono ?_
  rintro e w0 ⟨rfl, h0⟩
  have L0 : GSt 40 stopO w w.heap.size w0 stopO r0 := by rw [h0]; exact unhide HL0
  clear h0 HL0
  simp only [World.size_alloc]
  go_wp2_with fail
  refine (unhide k1 _ L0.rd).mono ?_
  rintro e w1 ⟨rfl, R, H⟩
  have M := L0.turn R H
  have f := M.frozen 0
  have c : w1.cell? ⟨w.heap.size + 1, 0, none⟩ = some (.int .u32 0) := by rw [cell_of_row _ _ _ _ _ _ M.x]; rfl
  have L1 := M.set (row' := stopc a1 z32 0 sig0) 0 (.int .u32 (a1 : Int)) (stopc_set 0 a1 z32 0 sig0)
  clear L0 R H M k1
  go_wp2_with fail
  refine (unhide k2 _ L1.rd).mono ?_
  rintro e w2 ⟨rfl, R, H⟩
  have M := L1.turn R H
  clear L1 R H k2 f c
  have MX : w2.heap[w.heap.size + 1]? = some (.cells (#[Value.int .u32 (a1 : Int)] ++ bc z32 ++ (#[Value.int .i64 0] ++ sig0)) 40 (0, 0)) := by
    rw [M.x]; unfold stopc; rw [Array.append_assoc (xs := #[Value.int .u32 (a1 : Int)] ++ bc z32)]
  go_wp2_with (refine wpList_store_part rfl 23 (.tmp 15) (.tmp 14) rfl (w.heap.size + 1) 1 #[Value.int .u32 (a1 : Int)] (bc z32) (#[Value.int .i64 0] ++ sig0) (bc A2) _ rfl rfl rfl (by rw [bc_size, bc_size, unhide Pa]; rfl) MX hi2 (bc_oneCell _) ?_; intro w3 g1 g2 g3 g4; rw [← Array.append_assoc] at g1; have L2 := M.part (row' := stopc a1 A2 0 sig0) g1 g2 g4; clear M MX g1 g2 g3 g4)
  refine (unhide k3 _ L2.rd).mono ?_
  rintro e w5 ⟨rfl, R, H⟩
  have L3 := L2.turn R H
  clear L2 R H k3
  go_wp2_with fail
  refine (unhide k4 _ L3.rd).mono ?_
  rintro e w6 ⟨v, rfl, R, H, s0, s1⟩
  obtain ⟨cs, rfl, csz, cs1, csd⟩ := unhide SG _ _ _ s0 s1
  have zz := L3.rd.lt
  have M := L3.turn R H
  have his := sig_info' cs (unhide csz)
  clear L3 R H k4 s0 s1 SG
  have HD : Hid (∀ W C, (r4.err = 0 → ∃ v1 v2 v3, C = #[.int .i64 (x7 : Int), v1, v2, v3] ∧ NewD w5.heap.size w6 v1 x6.1 ∧ NewD w5.heap.size w6 v2 x5.1 ∧ NewD w5.heap.size w6 v3 a4) → (∀ k, k ≠ w.heap.size + 1 → W.heap[k]? = w6.heap[k]?) → W.heap.size = w6.heap.size → Hid (r4.err = 0 → ∃ v1 v2 v3, C = #[.int .i64 (x7 : Int), v1, v2, v3] ∧ NewD (w.heap.size + 2) W v1 x6.1 ∧ NewD (w.heap.size + 2) W v2 x5.1 ∧ NewD (w.heap.size + 2) W v3 a4)) := fun W C hc g2 g3 he => by
    obtain ⟨v1, v2, v3, e, d1, d2, d3⟩ := hc he
    exact ⟨v1, v2, v3, e, d1.keep (fun k hk _ => g2 k (by omega)) (by omega), d2.keep (fun k hk _ => g2 k (by omega)) (by omega), d3.keep (fun k hk _ => g2 k (by omega)) (by omega)⟩
  have MX : w6.heap[w.heap.size + 1]? = some (.cells ((#[Value.int .u32 (a1 : Int)] ++ bc A2 ++ #[Value.int .i64 0]) ++ sig0 ++ #[]) 40 (0, 0)) := by
    rw [M.x, Array.append_empty]; rfl
  go_wp2_with (refine wpList_store_part rfl 33 (.tmp 20) (.tmp 19) rfl (w.heap.size + 1) 34 (#[Value.int .u32 (a1 : Int)] ++ bc A2 ++ #[Value.int .i64 0]) sig0 #[] cs _ rfl rfl (by simp [bc_size, unhide Pa]) (by rw [unhide csz]; rfl) MX his cs1 ?_; intro w7 g1 g2 g3 g4; rw [Array.append_empty] at g1; have L4 := M.part (row' := stopc a1 A2 0 cs) g1 g2 g4; have csd' := unhide HD w7 cs (unhide csd) g2 g3; clear M MX g1 g2 g3 g4 csd)
  refine (unhide k5 _ L4.rd).mono ?_
  rintro e w8 ⟨rfl, h8⟩
  rw [h8]
  clear k5 h8
  have hiz := stop_info stopO rfl
  have hoz : stopO.all (·.oneCell') = true := stopc_one _ _ _ _ (by simp [sig0, Value.oneCell'])
  by_cases hE : E = 0
  · have hE' : (E != 0) = false := by simp [hE]
    have hc' : Hid (¬ E ≠ 0) := fun h => h hE
    have herr := unhide HE hE
    have HF := hide (unhide csd' herr)
    clear hE herr csd' HE
    by_cases hW : 2147483647 < a3
    · have hd : decide ((2147483647 : Int) < (a3 : Int)) = true := by simp; omega
      have HW := hide hW
      have q0 := L4.res
      have hb := L4.below
      clear hW L4
      go_wp2_with (refine wpList_store_row rfl 40 (.tmp 2) (.tmp 29) rfl w.heap.size stopO rfl rfl 40 _ q0 hiz rfl hoz ?_)
      exact bodyPost_ret (results_row_tmp rfl _ _ w.heap.size _ _ _ _ rfl (setRow_heap _ _ _ _ _ _ q0) Tryd.underlying40 rfl hiz) rfl ⟨stopO, by rw [← unhide HEE0, if_neg (unhide hc'), if_pos (unhide HW)]; rfl, below_setRow hb (Nat.le_refl _) _, fun _ => rfl, fun h => by rw [← unhide HEE0, if_neg (unhide hc'), if_pos (unhide HW)] at h; cases h⟩
    · have hd : decide ((2147483647 : Int) < (a3 : Int)) = false := by simp; omega
      have HW := hide hW
      have f := L4.frozen 33
      have c : w7.cell? ⟨w.heap.size + 1, 33, none⟩ = some (.int .i64 0) := by rw [cell_of_row _ _ _ _ _ _ L4.x]; exact stopc_who a1 A2 (unhide Pa) 0 cs
      have L5 := L4.set (row' := stopc a1 A2 (a3 : Int) cs) 33 (.int .i64 (a3 : Int)) (stopc_set_who a1 A2 (unhide Pa) 0 a3 cs)
      have q0 := L5.res
      have q1 := L5.x
      have hb := L5.below
      have hsz := stopc_size a1 A2 (unhide Pa) a3 cs (unhide csz)
      have hir := stop_info _ hsz
      have hor := stopc_one a1 A2 a3 cs cs1
      have hzz : Hid (stopO.size = (stopc a1 A2 (a3 : Int) cs).size) := by rw [hsz]; rfl
      have HK : Hid (∀ k, w.heap.size + 2 ≤ k → (w7.setCell ⟨w.heap.size + 1, 33, none⟩ (.int .i64 (a3 : Int))).heap[k]? = w7.heap[k]?) := fun k hk => heap_setCell_other _ _ _ _ (by show k ≠ w.heap.size + 1; omega)
      obtain ⟨ROW, hROW⟩ : ∃ R, stopc a1 A2 (a3 : Int) cs = R := ⟨_, rfl⟩
      rw [hROW] at q1 hir hor hzz
      have HR := hide hROW
      clear hsz hROW L4 L5 hW
      go_wp2_with (first
        | (refine wpList_load_row rfl 40 (.tmp 4) rfl (w.heap.size + 1) rfl 40 ROW (0, 0) _ q1 Tryd.underlying40 rfl hir ?_)
        | (refine wpList_store_row rfl 40 (.tmp 2) (.tmp 33) rfl w.heap.size ROW rfl rfl 40 _ q0 hir (unhide hzz) hor ?_))
      refine bodyPost_ret (results_row_tmp rfl _ _ w.heap.size _ _ _ _ rfl (setRow_heap _ _ _ _ _ _ q0) Tryd.underlying40 rfl hir) rfl ⟨ROW, by rw [← unhide HEE0, if_neg (unhide hc'), if_neg (unhide HW)]; rfl, below_setRow hb (Nat.le_refl _) _, fun h => absurd (by rw [← unhide HEE0, if_neg (unhide hc'), if_neg (unhide HW)]) h, fun _ => ?_⟩
      obtain ⟨v1, v2, v3, e, d1, d2, d3⟩ := unhide HF
      exact ⟨v1, v2, v3, by rw [← unhide HR, e], d1.keep (fun k hk _ => (setRow_other _ _ _ _ (by omega)).trans (unhide HK k (by omega))) (by omega), d2.keep (fun k hk _ => (setRow_other _ _ _ _ (by omega)).trans (unhide HK k (by omega))) (by omega), d3.keep (fun k hk _ => (setRow_other _ _ _ _ (by omega)).trans (unhide HK k (by omega))) (by omega)⟩
  · have hE' : (E != 0) = true := by simp [hE]
    have HEE := hide hE
    have q0 := L4.res
    have hb := L4.below
    clear hE csd' HE L4
    go_wp2_with (refine wpList_store_row rfl 40 (.tmp 2) (.tmp 25) rfl w.heap.size stopO rfl rfl 40 _ q0 hiz rfl hoz ?_)
    exact bodyPost_ret (results_row_tmp rfl _ _ w.heap.size _ _ _ _ rfl (setRow_heap _ _ _ _ _ _ q0) Tryd.underlying40 rfl hiz) rfl ⟨stopO, by rw [← unhide HEE0, if_pos (unhide HEE)]; rfl, below_setRow hb (Nat.le_refl _) _, fun _ => rfl, fun h => by rw [← unhide HEE0, if_pos (unhide HEE)] at h; exact absurd h (unhide HEE)⟩
end Go.Proofs.YtmgacpcpnijgdaaDoor

namespace Go.Proofs.YtmgacpcpnijgdaaDoor
open Go.RowKit
set_option linter.unusedSimpArgs false
set_option linter.unusedVariables false

theorem digest_equal' (d : List UInt8) (hd : d.length = 32) (w : World) : (Op.equalIn 10000 23 (.agg (bc d)) (.agg (bc d))).run Tryd.prog w = .ok true w := by
  obtain ⟨la, hla⟩ := keyLits_ints (P := Tryd.prog) 23 5 32 .u8 Tryd.underlying23 Tryd.underlying5 (by kernel_rfl) (by kernel_rfl) (d.map fun b => (b.toNat : Int)) (by simpa using hd) (fun z hz => by
    obtain ⟨b, _, rfl⟩ := List.mem_map.1 hz
    have := b.toNat_lt
    simp [Lit.wf, IntKind.min, IntKind.max, IntKind.signed, IntKind.bits]; omega)
  refine equalIn_refl 23 2 2 (by omega) (by kernel_rfl) _ ?_ la ?_ w
  · simp only [Value.formed, Tryd.underlying23, bc_size, hd]; kernel_rfl
  · rw [← hla]; simp [bc, Lib.byteCells]; rfl
theorem digs_range {w : World} {b off n j : Nat} {l ch : List UInt8} (hby : Bytes w b off l) (hl : l.length = 32 * n) (hj : j < n) (hch : (l.drop (32 * j)).take 32 = ch) : w.rangeAt b (off + j * 32) (Lib.byteCells ch) := fun i v hv => by
  have hcl : ch.length = 32 := by rw [← hch, List.length_take, List.length_drop]; omega
  have hi : i < 32 := by
    have := (List.getElem?_eq_some_iff.1 hv).1
    rw [Lib.byteCells_length] at this; omega
  have h1 := hby (j * 32 + i) (by omega)
  rw [show off + j * 32 + i = off + (j * 32 + i) by omega, h1]
  have h2 := bc_at ch i (by omega)
  rw [bc, List.getElem?_toArray] at h2
  rw [h2] at hv
  rw [← Option.some.inj hv, ← hch]
  simp [List.getD_eq_getElem?_getD, List.getElem?_take, List.getElem?_drop, hi, Nat.mul_comm]
theorem digest_neq (d : List UInt8) (hd : d.length = 32) (w : World) : (binOp .neq 23 (.agg (bc d)) (.agg (bc d))).run Tryd.prog w = .ok (.bool false) w := by
  have h := digest_equal' d hd w
  have h' : (Op.equalIn Op.maxDepth 23 (.agg (bc d)) (.agg (bc d))).run Tryd.prog w = .ok true w := h
  simp [binOp, Op.equal, h']
set_option maxHeartbeats 1000000 in
set_option maxRecDepth 100000 in
theorem sameList_calls (v1 v2 : Value) (l : List UInt8) (hl : l.length ≤ 137438953471) (w : World) (D1 : Digs w v1 l) (D2 : Digs w v2 l) :
    Calls Tryd.prog 48 #[v1, v2] w fun e w' => e = .returned (.bool true) ∧ Below w.heap.size w w' := by
  obtain ⟨p1, n, cap1, rfl, hn, hp1⟩ := D1
  obtain ⟨p2, n2, cap2, rfl, hn2, hp2⟩ := D2
  obtain rfl : n2 = n := by omega
  have Hp1 := hide hp1
  have Hp2 := hide hp2
  have Hn := hide hn
  have hnb : n2 < 4294967296 := by omega
  clear hp1 hp2 hn hn2
  go_enter Tryd.func48, Tryd.ntmps48
  go_wp2
  go_loopw [13] (fun i wr => ∃ j : Nat, j ≤ n2 ∧ i = .int .i64 (j : Int) ∧ Below w.heap.size w wr) (fun i _ => n2 - (intOf i).toNat)
  case atStart => exact ⟨0, by omega, rfl, Below.refl _ _⟩
  case round =>
    obtain ⟨j, hj, rfl, hb⟩ := hrel
    have hln := unhide Hn
    by_cases hlt : j < n2
    · have hd : decide (j < n2) = true := by simpa using hlt
      have bk : (j : Int) < (n2 : Int) := by omega
      obtain ⟨b1, off1, rfl, hz1, hby1⟩ := unhide Hp1 (by omega)
      obtain ⟨b2, off2, rfl, hz2, hby2⟩ := unhide Hp2 (by omega)
      obtain ⟨ch, hch, hcl⟩ : ∃ ch : List UInt8, Hid ((l.drop (32 * j)).take 32 = ch) ∧ ch.length = 32 := ⟨_, rfl, by rw [List.length_take, List.length_drop]; omega⟩
      have hC : ∀ w', (∃ p : Regrown, w' = Sort.grow (redrawn wr p.d) p.os) → Below w.heap.size w w' := fun w' ⟨p, hp⟩ => by
        rw [hp]; exact hb.trans ((below_regrown wr p.d p.os).mono hb.size)
      have r1 : Hid (∀ w', (∃ p : Regrown, w' = Sort.grow (redrawn wr p.d) p.os) → w'.rangeAt b1 (off1 + j * 32) (Lib.byteCells ch)) := fun w' hw' => digs_range (hby1.below (hC w' hw') hz1) hln hlt (unhide hch)
      have r2 : Hid (∀ w', (∃ p : Regrown, w' = Sort.grow (redrawn wr p.d) p.os) → w'.rangeAt b2 (off2 + j * 32) (Lib.byteCells ch)) := fun w' hw' => digs_range (hby2.below (hC w' hw') hz2) hln hlt (unhide hch)
      have hil : (Tryd.prog.info? 23).map (·.size) = some (Lib.byteCells ch).length := by rw [Lib.byteCells_length, hcl]; kernel_rfl
      have hne : ∀ w, (binOp .neq 23 (.agg (Lib.byteCells ch).toArray) (.agg (Lib.byteCells ch).toArray)).run Tryd.prog w = .ok (.bool false) w := digest_neq ch hcl
      clear hln hC hby1 hby2 hz1 hz2
      go_wp2_with fail
      refine wp_region_below mixed (by kernel_rfl) ?_
      quiet_step (fail)
      quiet_step (fail)
      quiet_step (fail)
      refine wpQuiet_load_mid rfl 23 (.tmp 18) rfl b1 (off1 + j * 32) rfl (Lib.byteCells ch) _ (unhide r1) Tryd.underlying23 rfl hil ?_
      quiet_step (fail)
      quiet_step (fail)
      quiet_step (fail)
      refine wpQuiet_load_mid rfl 23 (.tmp 22) rfl b2 (off2 + j * 32) rfl (Lib.byteCells ch) _ (unhide r2) Tryd.underlying23 rfl hil ?_
      quiet_step (fail)
      refine wpQuiet_nil ?_
      intro w3 hb3
      clear hne hil r1 r2
      go_wp2
      go_roundw
      case rel => exact ⟨j + 1, by omega, by go_num, hb.trans (hb3.mono hb.size)⟩
      case measure => simp [intOf]; omega
    · have hd : decide (j < n2) = false := by simpa using hlt
      clear hln
      go_wp2
      go_ret
      exact ⟨rfl, hb⟩
set_option maxHeartbeats 1000000 in
theorem sameSig_calls (i : Int) (p1 p2 p3 q1 q2 q3 : Option Addr) (n1 n2 n3 c1 c2 c3 m1 m2 m3 e1 e2 e3 : Nat) (l1 l2 l3 : List UInt8) (h1 : l1.length ≤ 137438953471) (h2 : l2.length ≤ 137438953471) (h3 : l3.length ≤ 137438953471) (w : World)
    (A1 : Digs w (.slice p1 n1 c1) l1) (A2 : Digs w (.slice p2 n2 c2) l2) (A3 : Digs w (.slice p3 n3 c3) l3) (B1 : Digs w (.slice q1 m1 e1) l1) (B2 : Digs w (.slice q2 m2 e2) l2) (B3 : Digs w (.slice q3 m3 e3) l3) :
    Calls Tryd.prog 31 #[.agg #[.int .i64 i, .slice p1 n1 c1, .slice p2 n2 c2, .slice p3 n3 c3], .agg #[.int .i64 i, .slice q1 m1 e1, .slice q2 m2 e2, .slice q3 m3 e3]] w fun e w' => e = .returned (.bool true) ∧ Below w.heap.size w w' := by
  have r0 := (al2 w (.cells #[.int .i64 i, .slice p1 n1 c1, .slice p2 n2 c2, .slice p3 n3 c3] 33) (.cells #[.int .i64 i, .slice q1 m1 e1, .slice q2 m2 e2, .slice q3 m3 e3] 33)).1
  have r1 := (al2 w (.cells #[.int .i64 i, .slice p1 n1 c1, .slice p2 n2 c2, .slice p3 n3 c3] 33) (.cells #[.int .i64 i, .slice q1 m1 e1, .slice q2 m2 e2, .slice q3 m3 e3] 33)).2
  have hb0 := bel2 w (.cells #[.int .i64 i, .slice p1 n1 c1, .slice p2 n2 c2, .slice p3 n3 c3] 33) (.cells #[.int .i64 i, .slice q1 m1 e1, .slice q2 m2 e2, .slice q3 m3 e3] 33)
  have z0 : ((w.alloc (.cells #[.int .i64 i, .slice p1 n1 c1, .slice p2 n2 c2, .slice p3 n3 c3] 33)).alloc (.cells #[.int .i64 i, .slice q1 m1 e1, .slice q2 m2 e2, .slice q3 m3 e3] 33)).heap.size = w.heap.size + 1 + 1 := by simp
  go_enter Tryd.func31, Tryd.ntmps31
  go_wp2_with fail
  refine (sameList_calls _ _ l1 h1 ((w.alloc (.cells #[.int .i64 i, .slice p1 n1 c1, .slice p2 n2 c2, .slice p3 n3 c3] 33)).alloc (.cells #[.int .i64 i, .slice q1 m1 e1, .slice q2 m2 e2, .slice q3 m3 e3] 33)) (A1.below hb0) (B1.below hb0)).mono ?_
  generalize (w.alloc (.cells #[.int .i64 i, .slice p1 n1 c1, .slice p2 n2 c2, .slice p3 n3 c3] 33)).alloc (.cells #[.int .i64 i, .slice q1 m1 e1, .slice q2 m2 e2, .slice q3 m3 e3] 33) = X at *
  rintro e w1 ⟨rfl, hb1⟩
  have s0 := Below.at hb1 (by omega) r0
  have s1 := Below.at hb1 (by omega) r1
  have b1 := hb0.trans (hb1.mono hb0.size)
  have z1 := hb1.size
  have k02 : w1.cell? ⟨w.heap.size, 2, none⟩ = some (.slice p2 n2 c2) := (sig_cell s0).1 2 _ rfl
  have k12 : w1.cell? ⟨w.heap.size + 1, 2, none⟩ = some (.slice q2 m2 e2) := (sig_cell s1).1 2 _ rfl
  clear r0 r1 hb0 hb1
  go_wp2_with fail
  refine (sameList_calls _ _ l2 h2 w1 (A2.below b1) (B2.below b1)).mono ?_
  rintro e w2 ⟨rfl, hb2⟩
  have t0 := Below.at hb2 (by omega) s0
  have t1 := Below.at hb2 (by omega) s1
  have b2 := b1.trans (hb2.mono b1.size)
  have k03 : w2.cell? ⟨w.heap.size, 3, none⟩ = some (.slice p3 n3 c3) := (sig_cell t0).1 3 _ rfl
  have k13 : w2.cell? ⟨w.heap.size + 1, 3, none⟩ = some (.slice q3 m3 e3) := (sig_cell t1).1 3 _ rfl
  clear s0 s1 hb2 k02 k12 t0 t1
  go_wp2_with fail
  refine (sameList_calls _ _ l3 h3 w2 (A3.below b2) (B3.below b2)).mono ?_
  rintro e w3 ⟨rfl, hb3⟩
  clear k03 k13
  go_wp2
  go_ret
  exact ⟨rfl, b2.trans (hb3.mono b2.size)⟩
end Go.Proofs.YtmgacpcpnijgdaaDoor

namespace Go.Proofs.YtmgacpcpnijgdaaDoor
open Go.RowKit
set_option linter.unusedSimpArgs false
set_option linter.unusedVariables false

theorem take_back (a t : List UInt8) (n : Nat) (h : a.length = n) : (⟨a ++ t, 0⟩ : Rd).take n = (a, ⟨t, 0⟩) := by
  subst h
  simp [Rd.take]
theorem num_back (n k : Nat) (h : n < 256 ^ k) (t : List UInt8) : (⟨pBig n k ++ t, 0⟩ : Rd).num k = (n, ⟨t, 0⟩) := by
  simp only [Rd.num, take_back _ t k (pBig_length n k), pNum_pBig k n h]
theorem len_back (n : Nat) (h : n < 4294967296) (most : Int) (hm : (n : Int) ≤ most) (t : List UInt8) : (⟨pBig n 4 ++ t, 0⟩ : Rd).len most = (n, ⟨t, 0⟩) := by
  simp only [Rd.len, num_back n 4 h t]
  rw [if_neg (by omega)]
theorem text_back (s t : List UInt8) (h : s.length < 4294967296) : (⟨pText4 s ++ t, 0⟩ : Rd).text (s.length : Int) = (s, ⟨t, 0⟩) := by
  simp only [Rd.text, pText4, List.append_assoc, len_back s.length h (s.length : Int) (Int.le_refl _), take_back s t s.length rfl]
theorem digests_back (l t : List UInt8) (k : Nat) (h : l.length = 32 * k) (hk : k ≤ 32) : (⟨pDigests l ++ t, 0⟩ : Rd).digests 32 = (l, ⟨t, 0⟩) := by
  have e : l.length / 32 = k := by omega
  simp only [Rd.digests, pDigests, List.append_assoc, e, len_back k (by omega) 32 (by omega), take_back l t (32 * k) h]
theorem sig_back (i : Nat) (hi : i ≤ 2147483647) (l1 l2 l3 t : List UInt8) (k1 k2 k3 : Nat) (h1 : l1.length = 32 * k1) (h2 : l2.length = 32 * k2) (h3 : l3.length = 32 * k3) (m1 : k1 ≤ 32) (m2 : k2 ≤ 32) (m3 : k3 ≤ 32) :
    ((⟨pSig (i : Int) l1 l2 l3 ++ t, 0⟩ : Rd).num 4).1 = i ∧ (⟨pSig (i : Int) l1 l2 l3 ++ t, 0⟩ : Rd).d1.1 = l1 ∧ (⟨pSig (i : Int) l1 l2 l3 ++ t, 0⟩ : Rd).d2.1 = l2 ∧ (⟨pSig (i : Int) l1 l2 l3 ++ t, 0⟩ : Rd).d3 = (l3, ⟨t, 0⟩) := by
  have e : ((i : Int) % 4294967296).toNat = i := by omega
  have h0 : (⟨pSig (i : Int) l1 l2 l3 ++ t, 0⟩ : Rd).num 4 = (i, ⟨pDigests l1 ++ (pDigests l2 ++ (pDigests l3 ++ t)), 0⟩) := by
    rw [pSig, e]; simp only [List.append_assoc]; exact num_back i 4 (by show i < 4294967296; omega) _
  have hh : (⟨pSig (i : Int) l1 l2 l3 ++ t, 0⟩ : Rd).head = ⟨pDigests l1 ++ (pDigests l2 ++ (pDigests l3 ++ t)), 0⟩ := by
    unfold Rd.head; rw [h0, if_neg (by show ¬ 2147483647 < i; omega)]
  have hd1 : (⟨pSig (i : Int) l1 l2 l3 ++ t, 0⟩ : Rd).d1 = (l1, ⟨pDigests l2 ++ (pDigests l3 ++ t), 0⟩) := by
    unfold Rd.d1; rw [hh, digests_back l1 _ k1 h1 m1]
  have hd2 : (⟨pSig (i : Int) l1 l2 l3 ++ t, 0⟩ : Rd).d2 = (l2, ⟨pDigests l3 ++ t, 0⟩) := by
    unfold Rd.d2; rw [hd1, digests_back l2 _ k2 h2 m2]
  have hd3 : (⟨pSig (i : Int) l1 l2 l3 ++ t, 0⟩ : Rd).d3 = (l3, ⟨t, 0⟩) := by
    unfold Rd.d3; rw [hd2, digests_back l3 _ k3 h3 m3]
  exact ⟨by rw [h0], by rw [hd1], by rw [hd2], hd3⟩
end Go.Proofs.YtmgacpcpnijgdaaDoor

namespace Go.Proofs.YtmgacpcpnijgdaaDoor
open Go Go.RowKit

theorem wpList_load_row_gd {P : Program} {ops : Array Oper} {rest : List Oper} {o : Oper} {a : Act} {w : World} {Q : Exit → Act → World → Prop} (hw : Region.wanted o (yielded ops a.tmps) = true) (ty : TypeId) (x : Operand) (ho : o.op = .load ty x)
    (g : Nat) (hx : a.eval x = .pointer (some ⟨g, 0, none⟩)) (t : TypeId) (cs : Array Value) (fr : Nat × Nat) (d : TypeDesc) (hg : w.heap[g]? = some (.cells cs t fr))
    (hu : P.underlying ty = some d) (hd : (match d with | .struct _ | .array _ _ => true | _ => false) = true) (hi : (P.info? ty).map (·.size) = some cs.size)
    (h : wpList P ops Q rest (a.put o.dst (.agg cs)) w) : wpList P ops Q (o :: rest) a w :=
  wpList_step fun K hK => by
    rw [if_pos hw]
    exact wp_load_row ty x ho g hx t cs fr d hg hu hd hi (hK _ _ h)
end Go.Proofs.YtmgacpcpnijgdaaDoor

namespace Go.Proofs.YtmgacpcpnijgdaaDoor
open Go Go.RowKit
set_option linter.unusedSimpArgs false
set_option linter.unusedVariables false

theorem pad32_full (l : List UInt8) (h : l.length = 32) : pad32 l = l := by simp [pad32, h]
/-- What a reader reads. -/
structure UBack (r : Rd) (home : Nat) (a b : List UInt8) (i : Nat) (l1 l2 l3 : List UInt8) : Prop where
  (c1 : r.u1.1 = home) (c2 : pad32 r.u2.1 = a) (c3 : pad32 r.u3.1 = b) (c4 : (r.u3.2.num 4).1 = i) (c5 : r.u3.2.d1.1 = l1) (c6 : r.u3.2.d2.1 = l2) (c7 : r.u3.2.d3.1 = l3) (c8 : r.u3.2.d3.2.end' = 0)
theorem upd_back (home : Nat) (hh : home < 4294967296) (a b : List UInt8) (ha : a.length = 32) (hb : b.length = 32) (i : Nat) (hi : i ≤ 2147483647) (l1 l2 l3 : List UInt8) (k1 k2 k3 : Nat) (h1 : l1.length = 32 * k1) (h2 : l2.length = 32 * k2) (h3 : l3.length = 32 * k3) (m1 : k1 ≤ 32) (m2 : k2 ≤ 32) (m3 : k3 ≤ 32) :
    UBack ⟨pUpd home a b (i : Int) l1 l2 l3, 0⟩ home a b i l1 l2 l3 := by
  have e1 : (⟨pUpd home a b (i : Int) l1 l2 l3, 0⟩ : Rd).u1 = (home, ⟨a ++ (b ++ pSig (i : Int) l1 l2 l3), 0⟩) := num_back _ 4 hh _
  have e2 : (⟨pUpd home a b (i : Int) l1 l2 l3, 0⟩ : Rd).u2 = (a, ⟨b ++ pSig (i : Int) l1 l2 l3, 0⟩) := by rw [Rd.u2, e1]; exact take_back _ _ 32 ha
  have e3 : (⟨pUpd home a b (i : Int) l1 l2 l3, 0⟩ : Rd).u3 = (b, ⟨pSig (i : Int) l1 l2 l3, 0⟩) := by rw [Rd.u3, e2]; exact take_back _ _ 32 hb
  obtain ⟨s1, s2, s3, s4⟩ := sig_back i hi l1 l2 l3 [] k1 k2 k3 h1 h2 h3 m1 m2 m3
  rw [List.append_nil] at s1 s2 s3 s4
  refine ⟨by rw [e1], by rw [e2]; exact pad32_full a ha, by rw [e3]; exact pad32_full b hb, by rw [e3]; exact s1, by rw [e3]; exact s2, by rw [e3]; exact s3, by rw [e3, s4], by rw [e3, s4]; rfl⟩
theorem upd_read (l : List UInt8) (h : (⟨l, 0⟩ : Rd).u3.2.d3.2.end' = 0) : pUpd (⟨l, 0⟩ : Rd).u1.1 (pad32 (⟨l, 0⟩ : Rd).u2.1) (pad32 (⟨l, 0⟩ : Rd).u3.1) (((⟨l, 0⟩ : Rd).u3.2.num 4).1 : Int) (⟨l, 0⟩ : Rd).u3.2.d1.1 (⟨l, 0⟩ : Rd).u3.2.d2.1 (⟨l, 0⟩ : Rd).u3.2.d3.1 = l := by
  obtain ⟨o, z⟩ := Rd.end_ok _ h
  obtain ⟨o3, _, t4⟩ := Rd.sig_ok _ o
  obtain ⟨o2, t3, n3⟩ := Rd.take_ok _ _ o3
  obtain ⟨o1, t2, n2⟩ := Rd.take_ok _ _ o2
  obtain ⟨_, t1⟩ := Rd.num_ok _ _ o1
  rw [z, List.append_nil] at t4
  unfold pUpd
  rw [pad32_full (⟨l, 0⟩ : Rd).u2.1 n2, pad32_full (⟨l, 0⟩ : Rd).u3.1 n3, ← t4]
  rw [show (⟨l, 0⟩ : Rd).u3.1 ++ (⟨l, 0⟩ : Rd).u3.2.rest = (⟨l, 0⟩ : Rd).u2.2.rest from t3.symm, show (⟨l, 0⟩ : Rd).u2.1 ++ (⟨l, 0⟩ : Rd).u2.2.rest = (⟨l, 0⟩ : Rd).u1.2.rest from t2.symm]
  exact t1.symm
structure SBack (r : Rd) (home : Nat) (a : List UInt8) (x : Nat) (i : Nat) (l1 l2 l3 : List UInt8) : Prop where
  (c1 : r.u1.1 = home) (c2 : pad32 r.u2.1 = a) (c3 : r.s3.1 = x) (c4 : (r.s3.2.num 4).1 = i) (c5 : r.s3.2.d1.1 = l1) (c6 : r.s3.2.d2.1 = l2) (c7 : r.s3.2.d3.1 = l3) (c8 : pStopE r = 0)
theorem stop_back (home : Nat) (hh : home < 4294967296) (a : List UInt8) (ha : a.length = 32) (x : Nat) (hx : x ≤ 2147483647) (i : Nat) (hi : i ≤ 2147483647) (l1 l2 l3 : List UInt8) (k1 k2 k3 : Nat) (h1 : l1.length = 32 * k1) (h2 : l2.length = 32 * k2) (h3 : l3.length = 32 * k3) (m1 : k1 ≤ 32) (m2 : k2 ≤ 32) (m3 : k3 ≤ 32) :
    SBack ⟨pStop home a (x : Int) (i : Int) l1 l2 l3, 0⟩ home a x i l1 l2 l3 := by
  have ex : ((x : Int) % 4294967296).toNat = x := by omega
  have e1 : (⟨pStop home a (x : Int) (i : Int) l1 l2 l3, 0⟩ : Rd).u1 = (home, ⟨a ++ (pBig x 4 ++ pSig (i : Int) l1 l2 l3), 0⟩) := by rw [pStop, ex]; exact num_back _ 4 hh _
  have e2 : (⟨pStop home a (x : Int) (i : Int) l1 l2 l3, 0⟩ : Rd).u2 = (a, ⟨pBig x 4 ++ pSig (i : Int) l1 l2 l3, 0⟩) := by rw [Rd.u2, e1]; exact take_back _ _ 32 ha
  have e3 : (⟨pStop home a (x : Int) (i : Int) l1 l2 l3, 0⟩ : Rd).s3 = (x, ⟨pSig (i : Int) l1 l2 l3, 0⟩) := by rw [Rd.s3, e2]; exact num_back _ 4 (by show x < 4294967296; omega) _
  obtain ⟨s1, s2, s3, s4⟩ := sig_back i hi l1 l2 l3 [] k1 k2 k3 h1 h2 h3 m1 m2 m3
  rw [List.append_nil] at s1 s2 s3 s4
  refine ⟨by rw [e1], by rw [e2]; exact pad32_full a ha, by rw [e3], by rw [e3]; exact s1, by rw [e3]; exact s2, by rw [e3]; exact s3, by rw [e3, s4], ?_⟩
  unfold pStopE
  rw [e3, s4]
  simp only
  rw [if_neg (by simp [Rd.end']), if_neg (by omega)]
theorem stop_read (l : List UInt8) (h : pStopE (⟨l, 0⟩ : Rd) = 0) : pStop (⟨l, 0⟩ : Rd).u1.1 (pad32 (⟨l, 0⟩ : Rd).u2.1) ((⟨l, 0⟩ : Rd).s3.1 : Int) (((⟨l, 0⟩ : Rd).s3.2.num 4).1 : Int) (⟨l, 0⟩ : Rd).s3.2.d1.1 (⟨l, 0⟩ : Rd).s3.2.d2.1 (⟨l, 0⟩ : Rd).s3.2.d3.1 = l := by
  have h' : (⟨l, 0⟩ : Rd).s3.2.d3.2.end' = 0 := by
    unfold pStopE at h
    split at h
    · rename_i hn; exact absurd h hn
    · rename_i hn; apply Classical.byContradiction; exact hn
  obtain ⟨o, z⟩ := Rd.end_ok _ h'
  obtain ⟨o3, _, t4⟩ := Rd.sig_ok _ o
  obtain ⟨o2, t3⟩ := Rd.num_ok _ _ o3
  obtain ⟨o1, t2, n2⟩ := Rd.take_ok _ _ o2
  obtain ⟨_, t1⟩ := Rd.num_ok _ _ o1
  rw [z, List.append_nil] at t4
  have hx : (⟨l, 0⟩ : Rd).s3.1 < 4294967296 := Rd.num_lt _ 4
  unfold pStop
  rw [pad32_full (⟨l, 0⟩ : Rd).u2.1 n2, ← t4, show (((⟨l, 0⟩ : Rd).s3.1 : Int) % 4294967296).toNat = (⟨l, 0⟩ : Rd).s3.1 by omega]
  rw [show pBig (⟨l, 0⟩ : Rd).s3.1 4 ++ (⟨l, 0⟩ : Rd).s3.2.rest = (⟨l, 0⟩ : Rd).u2.2.rest from t3.symm, show (⟨l, 0⟩ : Rd).u2.1 ++ (⟨l, 0⟩ : Rd).u2.2.rest = (⟨l, 0⟩ : Rd).u1.2.rest from t2.symm]
  exact t1.symm
theorem Rd.digests_lt (r : Rd) (m : Int) : (r.digests m).1.length ≤ r.rest.length := Nat.le_trans (by
  unfold Rd.digests Rd.take
  split
  · simp
  · split
    · simp
    · simp; omega) (r.len_rest m)
theorem wpList_load_mid_gd {P : Program} {ops : Array Oper} {rest : List Oper} {o : Oper} {a : Act} {w : World} {Q : Exit → Act → World → Prop} (hw : Region.wanted o (yielded ops a.tmps) = true) (ty : TypeId) (x : Operand) (ho : o.op = .load ty x)
    (b off : Nat) (hx : a.eval x = .pointer (some ⟨b, off, none⟩)) (cs : List Value) (d : TypeDesc) (hc : w.rangeAt b off cs)
    (hu : P.underlying ty = some d) (hd : d.isRow = true) (hi : (P.info? ty).map (·.size) = some cs.length)
    (h : wpList P ops Q rest (a.put o.dst (.agg cs.toArray)) w) : wpList P ops Q (o :: rest) a w :=
  wpList_step fun K hK => by
    rw [if_pos hw]
    exact wp_load_mid ty x ho b off hx cs d hc hu hd hi (hK _ _ h)
theorem wpList_eql_gd {P : Program} {ops : Array Oper} {rest : List Oper} {o : Oper} {a : Act} {w : World} {Q : Exit → Act → World → Prop} (hw : Region.wanted o (yielded ops a.tmps) = true) (t t' : TypeId) (x y : Operand) (ho : o.op = .binOp .eql t x y t')
    (u v : Array Value) (hx : a.eval x = .agg u) (hy : a.eval y = .agg v) (hgt : P.eqGuardType P.depth t = false) (b : Bool) (he : ∀ w, (binOp .eql t (.agg u) (.agg v)).run P w = .ok (.bool b) w)
    (h : wpList P ops Q rest (a.put o.dst (.bool b)) w) : wpList P ops Q (o :: rest) a w :=
  wpList_step fun K hK => by
    rw [if_pos hw]
    have hg : (eqGuard .eql t x y (.agg u) (.agg v)).run P w = .ok () w := run_eqGuard_agg w .eql t x y u v hgt
    unfold Oper.wp execOp
    simp only [ho, hx, hy, Sem.run_bind, hg, Result.andThen_ok, he]
    exact hK _ _ h
theorem dinfo (d : List UInt8) (h : d.length = 32) : (Tryd.prog.info? 23).map (·.size) = some (Lib.byteCells d).length := by rw [Lib.byteCells_length, h]; kernel_rfl
theorem sinfo (cs : Array Value) (h : cs.size = 4) : (Tryd.prog.info? 33).map (·.size) = some cs.toList.length := by rw [Array.length_toList, h]; kernel_rfl
theorem dig_self' (d : List UInt8) (hd : d.length = 32) (w : World) : (binOp .eql 23 (.agg (Lib.byteCells d).toArray) (.agg (Lib.byteCells d).toArray)).run Tryd.prog w = .ok (.bool true) w := by
  have h := digest_equal' d hd w
  have h' : (Op.equalIn Op.maxDepth 23 (.agg (bc d)) (.agg (bc d))).run Tryd.prog w = .ok true w := h
  have : (binOp .eql 23 (.agg (bc d)) (.agg (bc d))).run Tryd.prog w = .ok (.bool true) w := by simp [binOp, Op.equal, h']
  exact this
set_option maxHeartbeats 2000000 in
set_option maxRecDepth 100000 in
theorem usame_calls (home : Nat) (a b : List UInt8) (ha : a.length = 32) (hb : b.length = 32) (cs ds : Array Value) (hc : cs.size = 4) (hd : ds.size = 4) (w : World)
    (hS : ∀ W, Below w.heap.size w W → Calls Tryd.prog 31 #[.agg cs, .agg ds] W fun e w' => e = .returned (.bool true) ∧ Below W.heap.size W w') :
    Calls Tryd.prog 13 #[.agg (updc home a b cs), .agg (updc home a b ds)] w fun e w' => e = .returned (.bool true) ∧ Below w.heap.size w w' := by
  obtain ⟨q0, q1⟩ := al2 w (.cells (updc home a b cs) 35) (.cells (updc home a b ds) 35)
  have hb0 := bel2 w (.cells (updc home a b cs) 35) (.cells (updc home a b ds) 35)
  obtain ⟨X, hX⟩ : ∃ X, (w.alloc (.cells (updc home a b cs) 35)).alloc (.cells (updc home a b ds) 35) = X := ⟨_, rfl⟩
  rw [hX] at q0 q1 hb0
  have HX := hide hX
  have HS := hide (hS X hb0)
  have c0 : X.cell? ⟨w.heap.size, 0, none⟩ = some (.int .u32 (home : Int)) := by rw [cell_of_row _ _ _ _ _ _ q0]; exact updc_home home a b cs
  have c1 : X.cell? ⟨w.heap.size + 1, 0, none⟩ = some (.int .u32 (home : Int)) := by rw [cell_of_row _ _ _ _ _ _ q1]; exact updc_home home a b ds
  have A0 := hide (updc_old home a b ha hb cs X _ _ q0)
  have A1 := hide (updc_old home a b ha hb ds X _ _ q1)
  have B0 := hide (updc_new home a b ha hb cs X _ _ q0)
  have B1 := hide (updc_new home a b ha hb ds X _ _ q1)
  have S0 := hide (updc_sig home a b ha hb cs hc X _ _ q0)
  have S1 := hide (updc_sig home a b ha hb ds hd X _ _ q1)
  have eb := hide fun W => dig_self' b hb W
  have ib := hide (dinfo b hb)
  have ea := hide fun W => dig_self' a ha W
  have ia := hide (dinfo a ha)
  have ic := hide (sinfo cs hc)
  have id := hide (sinfo ds hd)
  obtain ⟨R0, hR0⟩ : ∃ R, updc home a b cs = R := ⟨_, rfl⟩
  obtain ⟨R1, hR1⟩ : ∃ R, updc home a b ds = R := ⟨_, rfl⟩
  rw [hR0, hR1] at HX ⊢
  clear hR0 hR1 hX hS q0 q1 hc hd ha hb
  go_enter Tryd.func13, Tryd.ntmps13
  go_wp2_with (first
    | (rw [unhide HX])
    | (refine wpList_load_mid_gd rfl 23 (.tmp 11) rfl w.heap.size 1 rfl (Lib.byteCells a) _ (unhide A0) Tryd.underlying23 rfl (unhide ia) ?_)
    | (refine wpList_load_mid_gd rfl 23 (.tmp 13) rfl (w.heap.size + 1) 1 rfl (Lib.byteCells a) _ (unhide A1) Tryd.underlying23 rfl (unhide ia) ?_)
    | (refine wpList_eql_gd rfl 23 23 (.tmp 12) (.tmp 14) rfl _ _ rfl rfl (by kernel_rfl) true (unhide ea) ?_)
    | (refine wpList_load_mid_gd rfl 23 (.tmp 18) rfl w.heap.size 33 rfl (Lib.byteCells b) _ (unhide B0) Tryd.underlying23 rfl (unhide ib) ?_)
    | (refine wpList_load_mid_gd rfl 23 (.tmp 20) rfl (w.heap.size + 1) 33 rfl (Lib.byteCells b) _ (unhide B1) Tryd.underlying23 rfl (unhide ib) ?_)
    | (refine wpList_eql_gd rfl 23 23 (.tmp 19) (.tmp 21) rfl _ _ rfl rfl (by kernel_rfl) true (unhide eb) ?_)
    | (refine wpList_load_mid_gd rfl 33 (.tmp 25) rfl w.heap.size 65 rfl cs.toList _ (unhide S0) Tryd.underlying33 rfl (unhide ic) ?_)
    | (refine wpList_load_mid_gd rfl 33 (.tmp 27) rfl (w.heap.size + 1) 65 rfl ds.toList _ (unhide S1) Tryd.underlying33 rfl (unhide id) ?_))
  refine (unhide HS).mono ?_
  rintro e w1 ⟨rfl, b1⟩
  go_wp2
  go_ret
  exact ⟨rfl, hb0.trans (b1.mono hb0.size)⟩
set_option maxHeartbeats 2000000 in
set_option maxRecDepth 100000 in
theorem ssame_calls (home : Nat) (a : List UInt8) (ha : a.length = 32) (x : Int) (cs ds : Array Value) (hc : cs.size = 4) (hd : ds.size = 4) (w : World)
    (hS : ∀ W, Below w.heap.size w W → Calls Tryd.prog 31 #[.agg cs, .agg ds] W fun e w' => e = .returned (.bool true) ∧ Below W.heap.size W w') :
    Calls Tryd.prog 14 #[.agg (stopc home a x cs), .agg (stopc home a x ds)] w fun e w' => e = .returned (.bool true) ∧ Below w.heap.size w w' := by
  obtain ⟨q0, q1⟩ := al2 w (.cells (stopc home a x cs) 40) (.cells (stopc home a x ds) 40)
  have hb0 := bel2 w (.cells (stopc home a x cs) 40) (.cells (stopc home a x ds) 40)
  obtain ⟨X, hX⟩ : ∃ X, (w.alloc (.cells (stopc home a x cs) 40)).alloc (.cells (stopc home a x ds) 40) = X := ⟨_, rfl⟩
  rw [hX] at q0 q1 hb0
  have HX := hide hX
  have HS := hide (hS X hb0)
  have c0 : X.cell? ⟨w.heap.size, 0, none⟩ = some (.int .u32 (home : Int)) := by rw [cell_of_row _ _ _ _ _ _ q0]; exact stopc_home home a x cs
  have c1 : X.cell? ⟨w.heap.size + 1, 0, none⟩ = some (.int .u32 (home : Int)) := by rw [cell_of_row _ _ _ _ _ _ q1]; exact stopc_home home a x ds
  have d0 : X.cell? ⟨w.heap.size, 33, none⟩ = some (.int .i64 x) := by rw [cell_of_row _ _ _ _ _ _ q0]; exact stopc_who home a ha x cs
  have d1 : X.cell? ⟨w.heap.size + 1, 33, none⟩ = some (.int .i64 x) := by rw [cell_of_row _ _ _ _ _ _ q1]; exact stopc_who home a ha x ds
  have A0 := hide (stopc_key home a ha x cs X _ _ q0)
  have A1 := hide (stopc_key home a ha x ds X _ _ q1)
  have S0 := hide (stopc_sig home a ha x cs hc X _ _ q0)
  have S1 := hide (stopc_sig home a ha x ds hd X _ _ q1)
  have ea := hide fun W => dig_self' a ha W
  have ia := hide (dinfo a ha)
  have ic := hide (sinfo cs hc)
  have id := hide (sinfo ds hd)
  obtain ⟨R0, hR0⟩ : ∃ R, stopc home a x cs = R := ⟨_, rfl⟩
  obtain ⟨R1, hR1⟩ : ∃ R, stopc home a x ds = R := ⟨_, rfl⟩
  rw [hR0, hR1] at HX ⊢
  clear hR0 hR1 hX hS q0 q1 hc hd ha 
  go_enter Tryd.func14, Tryd.ntmps14
  go_wp2_with (first
    | (rw [unhide HX])
    | (refine wpList_load_mid_gd rfl 23 (.tmp 11) rfl w.heap.size 1 rfl (Lib.byteCells a) _ (unhide A0) Tryd.underlying23 rfl (unhide ia) ?_)
    | (refine wpList_load_mid_gd rfl 23 (.tmp 13) rfl (w.heap.size + 1) 1 rfl (Lib.byteCells a) _ (unhide A1) Tryd.underlying23 rfl (unhide ia) ?_)
    | (refine wpList_eql_gd rfl 23 23 (.tmp 12) (.tmp 14) rfl _ _ rfl rfl (by kernel_rfl) true (unhide ea) ?_)
    | (refine wpList_load_mid_gd rfl 33 (.tmp 25) rfl w.heap.size 34 rfl cs.toList _ (unhide S0) Tryd.underlying33 rfl (unhide ic) ?_)
    | (refine wpList_load_mid_gd rfl 33 (.tmp 27) rfl (w.heap.size + 1) 34 rfl ds.toList _ (unhide S1) Tryd.underlying33 rfl (unhide id) ?_))
  refine (unhide HS).mono ?_
  rintro e w1 ⟨rfl, b1⟩
  go_wp2
  go_ret
  exact ⟨rfl, hb0.trans (b1.mono hb0.size)⟩
end Go.Proofs.YtmgacpcpnijgdaaDoor
