/-
  WHAT package update's Read AND ReadStop RETURN.
-/
/-
  A BYTE OF A TEXT; DIGITS OF BASE SIXTEEN.
-/
/-
  THE DOCUMENT's OWN READER OF BYTES (layer 3): Take, Fail, Number, Text, End: it answers as wire's does.
-/
/-
  A SLICE OF ROWS THAT THE CALL OWNS: a slice literal of one row; a row appended. Over whatever program.
-/
/-
  THE DOCUMENT's OWN READER OF BYTES: Digest, Digests, Sig.
-/
/-
  THE DOCUMENT's OWN READER OF BYTES: Sig.
-/
/-
  WHAT THE DOCUMENT's OWN Read AND ReadStop (layer 10) RETURN.
-/
import Derived.Test.YtocibklkpnblgaaGreatDoorJ1
import Derived.Test.YtocibklkpnblgaaGreatDoorJ0
import Derived.Great.BuildSlice
import Derived.Laws.AppendOwn
import Derived.Laws.OwnMore
namespace Go.Proofs.YtocibklkpnblgaaGreatDoor
open Go Go.RowKit
set_option linter.unusedSimpArgs false
set_option linter.unusedVariables false

def z32 : List UInt8 := List.replicate 32 0
def updO : Array Value := updc 0 z32 z32 sig0
def stopO : Array Value := stopc 0 z32 0 sig0
def Rd.u1 (r : Rd) : Nat × Rd := r.num 4
def Rd.u2 (r : Rd) : List UInt8 × Rd := r.u1.2.take 32
def Rd.u3 (r : Rd) : List UInt8 × Rd := r.u2.2.take 32
def Rd.s3 (r : Rd) : Nat × Rd := r.u2.2.num 4
theorem uover_calls (l : List UInt8) (w : World) :
    Calls Tryz.prog 20 #[.string (str l)] w fun e w' => e = .returned (.pointer (some ⟨w.heap.size, 0, none⟩)) ∧ w' = w.alloc (.cells (⟨l, 0⟩ : Rd).cells 80) := by
  unfold Rd.cells
  simp only
  go_enter Tryz.func20, Tryz.ntmps20
  go_wp2
  go_ret
  exact ⟨rfl, rfl⟩
/-- What is read into: the result, the row, the reader. -/
structure GSt (T : TypeId) (Z : Array Value) (w : World) (N : Nat) (wi : World) (row : Array Value) (r : Rd) : Prop where
  below : Below N w wi
  res : wi.heap[N]? = some (.cells Z T (0, 0))
  x : wi.heap[N + 1]? = some (.cells row T (0, 0))
  rd : RdAt wi (N + 1 + 1) r
theorem GSt.turn {T : TypeId} {Z : Array Value} {w : World} {N : Nat} {wi w' : World} {row : Array Value} {r r' : Rd} (h : GSt T Z w N wi row r) (R : RdAt w' (N + 1 + 1) r') (H : Turned (N + 1 + 1) wi w') : GSt T Z w N w' row r' :=
  ⟨H.under h.below (by omega), H.row (by omega) h.res, H.row (by omega) h.x, R⟩
theorem GSt.set {T : TypeId} {Z : Array Value} {w : World} {N : Nat} {wi : World} {row row' : Array Value} {r : Rd} (h : GSt T Z w N wi row r) (j : Nat) (v : Value) (e : row.setIfInBounds j v = row') : GSt T Z w N (wi.setCell ⟨N + 1, j, none⟩ v) row' r := by
  refine ⟨h.below.setCell (p := ⟨N + 1, j, none⟩) (by show N ≤ N + 1; omega) _, ?_, ?_, h.rd.other (by omega) _⟩
  · rw [heap_setCell_other _ _ _ _ (by show N ≠ N + 1; omega)]; exact h.res
  · rw [← e]; exact heap_setCell_same _ _ _ _ _ _ h.x
theorem GSt.part {T : TypeId} {Z : Array Value} {w : World} {N : Nat} {wi w' : World} {row row' : Array Value} {r : Rd} (h : GSt T Z w N wi row r) (h1 : w'.heap[N + 1]? = some (.cells row' T (0, 0))) (h2 : ∀ k, k ≠ N + 1 → w'.heap[k]? = wi.heap[k]?) (h4 : ∀ B, B ≤ N + 1 → Below B wi w') : GSt T Z w N w' row' r :=
  ⟨h.below.trans (h4 N (by omega)), (h2 N (by omega)).trans h.res, h1, (h2 (N + 1 + 1) (by omega)).trans h.rd⟩
theorem GSt.frozen {T : TypeId} {Z : Array Value} {w : World} {N : Nat} {wi : World} {row : Array Value} {r : Rd} (h : GSt T Z w N wi row r) (j : Nat) : wi.frozen? ⟨N + 1, j, none⟩ = false := frozen_of_row _ _ _ _ _ h.x
/-- A signature that was read, as cells. -/
theorem sig_cells {B : Nat} {w : World} {r : Rd} {v : Value} (h0 : r.d3.2.err ≠ 0 → v = .agg sig0) (h1 : r.d3.2.err = 0 → ∃ v1 v2 v3, v = .agg #[.int .i64 ((r.num 4).1 : Int), v1, v2, v3] ∧ NewD B w v1 r.d1.1 ∧ NewD B w v2 r.d2.1 ∧ NewD B w v3 r.d3.1) :
    ∃ cs : Array Value, v = .agg cs ∧ Hid (cs.size = 4) ∧ cs.all (·.oneCell') = true ∧ Hid (r.d3.2.err = 0 → ∃ v1 v2 v3, cs = #[.int .i64 ((r.num 4).1 : Int), v1, v2, v3] ∧ NewD B w v1 r.d1.1 ∧ NewD B w v2 r.d2.1 ∧ NewD B w v3 r.d3.1) := by
  by_cases h : r.d3.2.err = 0
  · obtain ⟨v1, v2, v3, rfl, e1, e2, e3⟩ := h1 h
    refine ⟨_, rfl, rfl, ?_, fun _ => ⟨v1, v2, v3, rfl, e1, e2, e3⟩⟩
    simp [e1.one, e2.one, e3.one, show (Value.int .i64 ((r.num 4).1 : Int)).oneCell' = true from rfl]
  · exact ⟨_, h0 h, rfl, by simp [sig0, Value.oneCell'], fun h' => absurd h' h⟩
theorem digInfo' (d : List UInt8) (h : d.length = 32) : (Tryz.prog.info? 24).map (·.size) = some (bc d).size := by rw [bc_size, h]; kernel_rfl
theorem sig_info' (cs : Array Value) (h : cs.size = 4) : (Tryz.prog.info? 27).map (·.size) = some cs.size := by rw [h]; kernel_rfl
theorem Rd.u2_len (r : Rd) : (pad32 r.u2.1).length = 32 := pad32_length _ (r.u1.2.take_length 32)
theorem Rd.u3_len (r : Rd) : (pad32 r.u3.1).length = 32 := pad32_length _ (r.u2.2.take_length 32)
set_option maxHeartbeats 4000000 in
set_option maxRecDepth 100000 in
theorem uread_calls (l : List UInt8) (hl : l.length ≤ 4611686018427387904) (w : World) :
    Calls Tryz.prog 6 #[.string (str l)] w fun e w' => ∃ row : Array Value, e = .returned (.tuple #[.agg row, .int .i64 ((⟨l, 0⟩ : Rd).u3.2.d3.2.end')]) ∧ Below w.heap.size w w' ∧ Hid ((⟨l, 0⟩ : Rd).u3.2.d3.2.end' ≠ 0 → row = updO) ∧ Hid ((⟨l, 0⟩ : Rd).u3.2.d3.2.end' = 0 → ∃ v1 v2 v3, row = updc (⟨l, 0⟩ : Rd).u1.1 (pad32 (⟨l, 0⟩ : Rd).u2.1) (pad32 (⟨l, 0⟩ : Rd).u3.1) #[.int .i64 (((⟨l, 0⟩ : Rd).u3.2.num 4).1 : Int), v1, v2, v3] ∧ NewD w.heap.size w' v1 (⟨l, 0⟩ : Rd).u3.2.d1.1 ∧ NewD w.heap.size w' v2 (⟨l, 0⟩ : Rd).u3.2.d2.1 ∧ NewD w.heap.size w' v3 (⟨l, 0⟩ : Rd).u3.2.d3.1) := by
  obtain ⟨r0, h0⟩ : ∃ r, (⟨l, 0⟩ : Rd) = r := ⟨_, rfl⟩
  have hl0 : r0.rest.length ≤ 4611686018427387904 := by rw [← h0]; exact hl
  have ko := uover_calls l
  rw [h0] at ko ⊢
  have m1 : r0.u1.2.rest.length ≤ r0.rest.length := Rd.take_rest _ _
  have m2 : r0.u2.2.rest.length ≤ r0.u1.2.rest.length := Rd.take_rest _ _
  have m3 : r0.u3.2.rest.length ≤ r0.u2.2.rest.length := Rd.take_rest _ _
  have k1 := hide fun W (h : RdAt W (w.heap.size + 1 + 1) r0) => rword_calls _ r0 hl0 W h
  have k2 := hide fun W (h : RdAt W (w.heap.size + 1 + 1) r0.u1.2) => rdigest_calls _ r0.u1.2 (by omega) W h
  have k3 := hide fun W (h : RdAt W (w.heap.size + 1 + 1) r0.u2.2) => rdigest_calls _ r0.u2.2 (by omega) W h
  have k4 := hide fun W (h : RdAt W (w.heap.size + 1 + 1) r0.u3.2) => rsigN_calls _ r0.u3.2 (by omega) W h
  have k5 := hide fun W (h : RdAt W (w.heap.size + 1 + 1) r0.u3.2.d3.2) => rdend_calls _ r0.u3.2.d3.2 W h
  have sg := fun (B : Nat) (w : World) (v : Value) h0 h1 => @sig_cells B w r0.u3.2 v h0 h1
  have e1 : r0.num 4 = r0.u1 := rfl
  have e2 : r0.u1.2.take 32 = r0.u2 := rfl
  have e3 : r0.u2.2.take 32 = r0.u3 := rfl
  rw [e1] at k1
  rw [e2] at k2
  rw [e3] at k3
  have p2 := r0.u2_len
  have p3 := r0.u3_len
  have herr : r0.u3.2.d3.2.end' = 0 → r0.u3.2.d3.2.err = 0 := fun h => (Rd.end_ok _ h).1
  obtain ⟨E, hE0⟩ : ∃ E, r0.u3.2.d3.2.end' = E := ⟨_, rfl⟩
  rw [hE0] at k5 herr ⊢
  have SG := hide sg
  have HE := hide herr
  clear m1 m2 m3 e1 e2 e3 hE0 h0 hl0 hl sg herr
  generalize r0.u3.2.d3 = x4 at *
  generalize r0.u3.2.d2 = x5 at *
  generalize r0.u3.2.d1 = x6 at *
  generalize (r0.u3.2.num 4).1 = x7 at *
  generalize r0.u3 = x3 at *
  generalize r0.u2 = x2 at *
  generalize r0.u1 = x1 at *
  obtain ⟨a1, r1⟩ := x1
  obtain ⟨a2, r2⟩ := x2
  obtain ⟨a3, r3⟩ := x3
  obtain ⟨a4, r4⟩ := x4
  simp only at *
  generalize pad32 a2 = A2 at *
  generalize pad32 a3 = A3 at *
  have L0 : GSt 29 updO w w.heap.size (((w.alloc (.cells updO 29)).alloc (.cells updO 29)).alloc (.cells r0.cells 80)) updO r0 :=
    ⟨bel3 w _ _ _, (al3 w _ _ _).1, (al3 w _ _ _).2.1, (al3 w _ _ _).2.2⟩
  have HL0 := hide L0
  have Ko := hide ko
  have Pa := hide p2
  have hi2 := digInfo' A2 p2
  have Pb := hide p3
  have hi3 := digInfo' A3 p3
  clear L0 ko p2 p3
  go_enter Tryz.func6, Tryz.ntmps6
  go_wp2_with fail
  refine (unhide Ko _).mono ?_
  rintro e w0 ⟨rfl, h0⟩
  have L0 : GSt 29 updO w w.heap.size w0 updO r0 := by rw [h0]; exact unhide HL0
  clear h0 HL0
  simp only [World.size_alloc]
  go_wp2_with fail
  refine (unhide k1 _ L0.rd).mono ?_
  rintro e w1 ⟨rfl, R, H⟩
  have M := L0.turn R H
  have f := M.frozen 0
  have c : w1.cell? ⟨w.heap.size + 1, 0, none⟩ = some (.int .u32 0) := by rw [cell_of_row _ _ _ _ _ _ M.x]; rfl
  have L1 := M.set (row' := updc a1 z32 z32 sig0) 0 (.int .u32 (a1 : Int)) (updc_set 0 a1 z32 z32 sig0)
  clear L0 R H M k1
  go_wp2_with fail
  refine (unhide k2 _ L1.rd).mono ?_
  rintro e w2 ⟨rfl, R, H⟩
  have M := L1.turn R H
  clear L1 R H k2 f c
  have MX : w2.heap[w.heap.size + 1]? = some (.cells (#[Value.int .u32 (a1 : Int)] ++ bc z32 ++ (bc z32 ++ sig0)) 29 (0, 0)) := by
    rw [M.x]; unfold updc; rw [Array.append_assoc (xs := #[Value.int .u32 (a1 : Int)] ++ bc z32)]
  go_wp2_with (refine wpList_store_part rfl 24 (.tmp 14) (.tmp 13) rfl (w.heap.size + 1) 1 #[Value.int .u32 (a1 : Int)] (bc z32) (bc z32 ++ sig0) (bc A2) _ rfl rfl rfl (by rw [bc_size, bc_size, unhide Pa]; rfl) MX hi2 (bc_oneCell _) ?_; intro w3 g1 g2 g3 g4; rw [← Array.append_assoc] at g1; have L2 := M.part (row' := updc a1 A2 z32 sig0) g1 g2 g4; clear M MX g1 g2 g3 g4)
  refine (unhide k3 _ L2.rd).mono ?_
  rintro e w4 ⟨rfl, R, H⟩
  have M := L2.turn R H
  clear L2 R H k3
  go_wp2_with (refine wpList_store_part rfl 24 (.tmp 17) (.tmp 16) rfl (w.heap.size + 1) 33 (#[Value.int .u32 (a1 : Int)] ++ bc A2) (bc z32) sig0 (bc A3) _ rfl rfl (by simp [bc_size, unhide Pa]) (by rw [bc_size, bc_size, unhide Pb]; rfl) M.x hi3 (bc_oneCell _) ?_; intro w5 g1 g2 g3 g4; have L3 := M.part (row' := updc a1 A2 A3 sig0) g1 g2 g4; clear M g1 g2 g3 g4)
  refine (unhide k4 _ L3.rd).mono ?_
  rintro e w6 ⟨v, rfl, R, H, s0, s1⟩
  obtain ⟨cs, rfl, csz, cs1, csd⟩ := unhide SG _ _ _ s0 s1
  have zz := L3.rd.lt
  have M := L3.turn R H
  have his := sig_info' cs (unhide csz)
  clear L3 R H k4 s0 s1 SG
  have HD : Hid (∀ W C, (r4.err = 0 → ∃ v1 v2 v3, C = #[.int .i64 (x7 : Int), v1, v2, v3] ∧ NewD w5.heap.size w6 v1 x6.1 ∧ NewD w5.heap.size w6 v2 x5.1 ∧ NewD w5.heap.size w6 v3 a4) → (∀ k, k ≠ w.heap.size + 1 → W.heap[k]? = w6.heap[k]?) → W.heap.size = w6.heap.size → Hid (r4.err = 0 → ∃ v1 v2 v3, C = #[.int .i64 (x7 : Int), v1, v2, v3] ∧ NewD (w.heap.size + 2) W v1 x6.1 ∧ NewD (w.heap.size + 2) W v2 x5.1 ∧ NewD (w.heap.size + 2) W v3 a4)) := fun W C hc g2 g3 he => by
    obtain ⟨v1, v2, v3, e, d1, d2, d3⟩ := hc he
    exact ⟨v1, v2, v3, e, d1.keep (fun k hk _ => g2 k (by omega)) (by omega), d2.keep (fun k hk _ => g2 k (by omega)) (by omega), d3.keep (fun k hk _ => g2 k (by omega)) (by omega)⟩
  have MX : w6.heap[w.heap.size + 1]? = some (.cells ((#[Value.int .u32 (a1 : Int)] ++ bc A2 ++ bc A3) ++ sig0 ++ #[]) 29 (0, 0)) := by
    rw [M.x, Array.append_empty]; rfl
  go_wp2_with (refine wpList_store_part rfl 27 (.tmp 20) (.tmp 19) rfl (w.heap.size + 1) 65 (#[Value.int .u32 (a1 : Int)] ++ bc A2 ++ bc A3) sig0 #[] cs _ rfl rfl (by simp [bc_size, unhide Pa, unhide Pb]) (by rw [unhide csz]; rfl) MX his cs1 ?_; intro w7 g1 g2 g3 g4; rw [Array.append_empty] at g1; have L4 := M.part (row' := updc a1 A2 A3 cs) g1 g2 g4; have csd' := unhide HD w7 cs (unhide csd) g2 g3; clear M MX g1 g2 g3 g4 csd)
  refine (unhide k5 _ L4.rd).mono ?_
  rintro e w8 ⟨rfl, h8⟩
  have q0 := L4.res
  have q1 := L4.x
  have hb := L4.below
  rw [h8]
  clear k5 L4 h8
  have hsz := updc_size a1 A2 A3 (unhide Pa) (unhide Pb) cs (unhide csz)
  have hir := upd_info _ hsz
  have hor := updc_one a1 A2 A3 cs cs1
  have hiz := upd_info updO rfl
  have hoz : updO.all (·.oneCell') = true := updc_one _ _ _ _ (by simp [sig0, Value.oneCell'])
  have hzz : Hid (updO.size = (updc a1 A2 A3 cs).size) := by rw [hsz]; rfl
  obtain ⟨ROW, hROW⟩ : ∃ R, updc a1 A2 A3 cs = R := ⟨_, rfl⟩
  rw [hROW] at q1 hir hor hzz
  have HR := hide hROW
  clear hsz hROW
  by_cases hE : E = 0
  · have hE' : (E != 0) = false := by simp [hE]
    have herr := unhide HE hE
    have hfin := unhide csd' herr
    have HF := hide hfin
    have HEE := hide hE
    clear hE herr hfin csd' HE
    go_wp2_with (first
      | (refine wpList_load_row rfl 29 (.tmp 4) rfl (w.heap.size + 1) rfl 29 ROW (0, 0) _ q1 Tryz.underlying29 rfl hir ?_)
      | (refine wpList_store_row rfl 29 (.tmp 2) (.tmp 27) rfl w.heap.size ROW rfl rfl 29 _ q0 hir (unhide hzz) hor ?_))
    refine bodyPost_ret (results_row_tmp rfl _ _ w.heap.size _ _ _ _ rfl (setRow_heap _ _ _ _ _ _ q0) Tryz.underlying29 rfl hir) rfl ⟨ROW, by rw [unhide HEE]; rfl, below_setRow hb (Nat.le_refl _) _, fun h => absurd (unhide HEE) h, fun _ => ?_⟩
    obtain ⟨v1, v2, v3, e, d1, d2, d3⟩ := unhide HF
    exact ⟨v1, v2, v3, by rw [← unhide HR, e], d1.keep (fun k hk _ => setRow_other _ _ _ _ (by omega)) (by omega), d2.keep (fun k hk _ => setRow_other _ _ _ _ (by omega)) (by omega), d3.keep (fun k hk _ => setRow_other _ _ _ _ (by omega)) (by omega)⟩
  · have hE' : (E != 0) = true := by simp [hE]
    have HEE := hide hE
    clear hE csd' HE
    go_wp2_with (refine wpList_store_row rfl 29 (.tmp 2) (.tmp 25) rfl w.heap.size updO rfl rfl 29 _ q0 hiz rfl hoz ?_)
    exact bodyPost_ret (results_row_tmp rfl _ _ w.heap.size _ _ _ _ rfl (setRow_heap _ _ _ _ _ _ q0) Tryz.underlying29 rfl hiz) rfl ⟨updO, rfl, below_setRow hb (Nat.le_refl _) _, fun _ => rfl, fun h => absurd h (unhide HEE)⟩
/-- What is wrong with the bytes of a stop. -/
def pStopE (r : Rd) : Int := if r.s3.2.d3.2.end' ≠ 0 then r.s3.2.d3.2.end' else if 2147483647 < r.s3.1 then 8 else 0
set_option maxHeartbeats 4000000 in
set_option maxRecDepth 100000 in
theorem sread_calls (l : List UInt8) (hl : l.length ≤ 4611686018427387904) (w : World) :
    Calls Tryz.prog 8 #[.string (str l)] w fun e w' => ∃ row : Array Value, e = .returned (.tuple #[.agg row, .int .i64 (pStopE (⟨l, 0⟩ : Rd))]) ∧ Below w.heap.size w w' ∧ Hid (pStopE (⟨l, 0⟩ : Rd) ≠ 0 → row = stopO) ∧ Hid (pStopE (⟨l, 0⟩ : Rd) = 0 → ∃ v1 v2 v3, row = stopc (⟨l, 0⟩ : Rd).u1.1 (pad32 (⟨l, 0⟩ : Rd).u2.1) ((⟨l, 0⟩ : Rd).s3.1 : Int) #[.int .i64 (((⟨l, 0⟩ : Rd).s3.2.num 4).1 : Int), v1, v2, v3] ∧ NewD w.heap.size w' v1 (⟨l, 0⟩ : Rd).s3.2.d1.1 ∧ NewD w.heap.size w' v2 (⟨l, 0⟩ : Rd).s3.2.d2.1 ∧ NewD w.heap.size w' v3 (⟨l, 0⟩ : Rd).s3.2.d3.1) := by
  obtain ⟨r0, h0⟩ : ∃ r, (⟨l, 0⟩ : Rd) = r := ⟨_, rfl⟩
  have hl0 : r0.rest.length ≤ 4611686018427387904 := by rw [← h0]; exact hl
  have ko := uover_calls l
  rw [h0] at ko ⊢
  have m1 : r0.u1.2.rest.length ≤ r0.rest.length := Rd.take_rest _ _
  have m2 : r0.u2.2.rest.length ≤ r0.u1.2.rest.length := Rd.take_rest _ _
  have m3 : r0.s3.2.rest.length ≤ r0.u2.2.rest.length := Rd.take_rest _ _
  have k1 := hide fun W (h : RdAt W (w.heap.size + 1 + 1) r0) => rword_calls _ r0 hl0 W h
  have k2 := hide fun W (h : RdAt W (w.heap.size + 1 + 1) r0.u1.2) => rdigest_calls _ r0.u1.2 (by omega) W h
  have k3 := hide fun W (h : RdAt W (w.heap.size + 1 + 1) r0.u2.2) => rword_calls _ r0.u2.2 (by omega) W h
  have k4 := hide fun W (h : RdAt W (w.heap.size + 1 + 1) r0.s3.2) => rsigN_calls _ r0.s3.2 (by omega) W h
  have k5 := hide fun W (h : RdAt W (w.heap.size + 1 + 1) r0.s3.2.d3.2) => rdend_calls _ r0.s3.2.d3.2 W h
  have sg := fun (B : Nat) (w : World) (v : Value) h0 h1 => @sig_cells B w r0.s3.2 v h0 h1
  have e1 : r0.num 4 = r0.u1 := rfl
  have e2 : r0.u1.2.take 32 = r0.u2 := rfl
  have e3 : r0.u2.2.num 4 = r0.s3 := rfl
  rw [e1] at k1
  rw [e2] at k2
  rw [e3] at k3
  have p2 := r0.u2_len
  have w3 : r0.s3.1 < 4294967296 := Rd.num_lt _ 4
  have herr : r0.s3.2.d3.2.end' = 0 → r0.s3.2.d3.2.err = 0 := fun h => (Rd.end_ok _ h).1
  obtain ⟨E, hE0⟩ : ∃ E, r0.s3.2.d3.2.end' = E := ⟨_, rfl⟩
  rw [hE0] at k5 herr 
  obtain ⟨EE, hEE⟩ : ∃ EE, pStopE r0 = EE := ⟨_, rfl⟩
  rw [hEE]
  unfold pStopE at hEE
  rw [hE0] at hEE
  have HEE0 := hide hEE
  clear hEE
  have SG := hide sg
  have HE := hide herr
  clear m1 m2 m3 e1 e2 e3 hE0 h0 hl0 hl sg herr
  generalize r0.s3.2.d3 = x4 at *
  generalize r0.s3.2.d2 = x5 at *
  generalize r0.s3.2.d1 = x6 at *
  generalize (r0.s3.2.num 4).1 = x7 at *
  generalize r0.s3 = x3 at *
  generalize r0.u2 = x2 at *
  generalize r0.u1 = x1 at *
  obtain ⟨a1, r1⟩ := x1
  obtain ⟨a2, r2⟩ := x2
  obtain ⟨a3, r3⟩ := x3
  obtain ⟨a4, r4⟩ := x4
  simp only at *
  generalize pad32 a2 = A2 at *
  have L0 : GSt 31 stopO w w.heap.size (((w.alloc (.cells stopO 31)).alloc (.cells stopO 31)).alloc (.cells r0.cells 80)) stopO r0 :=
    ⟨bel3 w _ _ _, (al3 w _ _ _).1, (al3 w _ _ _).2.1, (al3 w _ _ _).2.2⟩
  have HL0 := hide L0
  have Ko := hide ko
  have Pa := hide p2
  have hi2 := digInfo' A2 p2
  clear L0 ko p2 
  go_enter Tryz.func8, Tryz.ntmps8
  go_wp2_with fail
  refine (unhide Ko _).mono ?_
  rintro e w0 ⟨rfl, h0⟩
  have L0 : GSt 31 stopO w w.heap.size w0 stopO r0 := by rw [h0]; exact unhide HL0
  clear h0 HL0
  simp only [World.size_alloc]
  go_wp2_with fail
  refine (unhide k1 _ L0.rd).mono ?_
  rintro e w1 ⟨rfl, R, H⟩
  have M := L0.turn R H
  have f := M.frozen 0
  have c : w1.cell? ⟨w.heap.size + 1, 0, none⟩ = some (.int .u32 0) := by rw [cell_of_row _ _ _ _ _ _ M.x]; rfl
  have L1 := M.set (row' := stopc a1 z32 0 sig0) 0 (.int .u32 (a1 : Int)) (stopc_set 0 a1 z32 0 sig0)
  clear L0 R H M k1
  go_wp2_with fail
  refine (unhide k2 _ L1.rd).mono ?_
  rintro e w2 ⟨rfl, R, H⟩
  have M := L1.turn R H
  clear L1 R H k2 f c
  have MX : w2.heap[w.heap.size + 1]? = some (.cells (#[Value.int .u32 (a1 : Int)] ++ bc z32 ++ (#[Value.int .i64 0] ++ sig0)) 31 (0, 0)) := by
    rw [M.x]; unfold stopc; rw [Array.append_assoc (xs := #[Value.int .u32 (a1 : Int)] ++ bc z32)]
  go_wp2_with (refine wpList_store_part rfl 24 (.tmp 15) (.tmp 14) rfl (w.heap.size + 1) 1 #[Value.int .u32 (a1 : Int)] (bc z32) (#[Value.int .i64 0] ++ sig0) (bc A2) _ rfl rfl rfl (by rw [bc_size, bc_size, unhide Pa]; rfl) MX hi2 (bc_oneCell _) ?_; intro w3 g1 g2 g3 g4; rw [← Array.append_assoc] at g1; have L2 := M.part (row' := stopc a1 A2 0 sig0) g1 g2 g4; clear M MX g1 g2 g3 g4)
  refine (unhide k3 _ L2.rd).mono ?_
  rintro e w5 ⟨rfl, R, H⟩
  have L3 := L2.turn R H
  clear L2 R H k3
  go_wp2_with fail
  refine (unhide k4 _ L3.rd).mono ?_
  rintro e w6 ⟨v, rfl, R, H, s0, s1⟩
  obtain ⟨cs, rfl, csz, cs1, csd⟩ := unhide SG _ _ _ s0 s1
  have zz := L3.rd.lt
  have M := L3.turn R H
  have his := sig_info' cs (unhide csz)
  clear L3 R H k4 s0 s1 SG
  have HD : Hid (∀ W C, (r4.err = 0 → ∃ v1 v2 v3, C = #[.int .i64 (x7 : Int), v1, v2, v3] ∧ NewD w5.heap.size w6 v1 x6.1 ∧ NewD w5.heap.size w6 v2 x5.1 ∧ NewD w5.heap.size w6 v3 a4) → (∀ k, k ≠ w.heap.size + 1 → W.heap[k]? = w6.heap[k]?) → W.heap.size = w6.heap.size → Hid (r4.err = 0 → ∃ v1 v2 v3, C = #[.int .i64 (x7 : Int), v1, v2, v3] ∧ NewD (w.heap.size + 2) W v1 x6.1 ∧ NewD (w.heap.size + 2) W v2 x5.1 ∧ NewD (w.heap.size + 2) W v3 a4)) := fun W C hc g2 g3 he => by
    obtain ⟨v1, v2, v3, e, d1, d2, d3⟩ := hc he
    exact ⟨v1, v2, v3, e, d1.keep (fun k hk _ => g2 k (by omega)) (by omega), d2.keep (fun k hk _ => g2 k (by omega)) (by omega), d3.keep (fun k hk _ => g2 k (by omega)) (by omega)⟩
  have MX : w6.heap[w.heap.size + 1]? = some (.cells ((#[Value.int .u32 (a1 : Int)] ++ bc A2 ++ #[Value.int .i64 0]) ++ sig0 ++ #[]) 31 (0, 0)) := by
    rw [M.x, Array.append_empty]; rfl
  go_wp2_with (refine wpList_store_part rfl 27 (.tmp 20) (.tmp 19) rfl (w.heap.size + 1) 34 (#[Value.int .u32 (a1 : Int)] ++ bc A2 ++ #[Value.int .i64 0]) sig0 #[] cs _ rfl rfl (by simp [bc_size, unhide Pa]) (by rw [unhide csz]; rfl) MX his cs1 ?_; intro w7 g1 g2 g3 g4; rw [Array.append_empty] at g1; have L4 := M.part (row' := stopc a1 A2 0 cs) g1 g2 g4; have csd' := unhide HD w7 cs (unhide csd) g2 g3; clear M MX g1 g2 g3 g4 csd)
  refine (unhide k5 _ L4.rd).mono ?_
  rintro e w8 ⟨rfl, h8⟩
  rw [h8]
  clear k5 h8
  have hiz := stop_info stopO rfl
  have hoz : stopO.all (·.oneCell') = true := stopc_one _ _ _ _ (by simp [sig0, Value.oneCell'])
  by_cases hE : E = 0
  · have hE' : (E != 0) = false := by simp [hE]
    have hc' : Hid (¬ E ≠ 0) := fun h => h hE
    have herr := unhide HE hE
    have HF := hide (unhide csd' herr)
    clear hE herr csd' HE
    by_cases hW : 2147483647 < a3
    · have hd : decide ((2147483647 : Int) < (a3 : Int)) = true := by simp; omega
      have HW := hide hW
      have q0 := L4.res
      have hb := L4.below
      clear hW L4
      go_wp2_with (refine wpList_store_row rfl 31 (.tmp 2) (.tmp 29) rfl w.heap.size stopO rfl rfl 31 _ q0 hiz rfl hoz ?_)
      exact bodyPost_ret (results_row_tmp rfl _ _ w.heap.size _ _ _ _ rfl (setRow_heap _ _ _ _ _ _ q0) Tryz.underlying31 rfl hiz) rfl ⟨stopO, by rw [← unhide HEE0, if_neg (unhide hc'), if_pos (unhide HW)]; rfl, below_setRow hb (Nat.le_refl _) _, fun _ => rfl, fun h => by rw [← unhide HEE0, if_neg (unhide hc'), if_pos (unhide HW)] at h; cases h⟩
    · have hd : decide ((2147483647 : Int) < (a3 : Int)) = false := by simp; omega
      have HW := hide hW
      have f := L4.frozen 33
      have c : w7.cell? ⟨w.heap.size + 1, 33, none⟩ = some (.int .i64 0) := by rw [cell_of_row _ _ _ _ _ _ L4.x]; exact stopc_who a1 A2 (unhide Pa) 0 cs
      have L5 := L4.set (row' := stopc a1 A2 (a3 : Int) cs) 33 (.int .i64 (a3 : Int)) (stopc_set_who a1 A2 (unhide Pa) 0 a3 cs)
      have q0 := L5.res
      have q1 := L5.x
      have hb := L5.below
      have hsz := stopc_size a1 A2 (unhide Pa) a3 cs (unhide csz)
      have hir := stop_info _ hsz
      have hor := stopc_one a1 A2 a3 cs cs1
      have hzz : Hid (stopO.size = (stopc a1 A2 (a3 : Int) cs).size) := by rw [hsz]; rfl
      have HK : Hid (∀ k, w.heap.size + 2 ≤ k → (w7.setCell ⟨w.heap.size + 1, 33, none⟩ (.int .i64 (a3 : Int))).heap[k]? = w7.heap[k]?) := fun k hk => heap_setCell_other _ _ _ _ (by show k ≠ w.heap.size + 1; omega)
      obtain ⟨ROW, hROW⟩ : ∃ R, stopc a1 A2 (a3 : Int) cs = R := ⟨_, rfl⟩
      rw [hROW] at q1 hir hor hzz
      have HR := hide hROW
      clear hsz hROW L4 L5 hW
      go_wp2_with (first
        | (refine wpList_load_row rfl 31 (.tmp 4) rfl (w.heap.size + 1) rfl 31 ROW (0, 0) _ q1 Tryz.underlying31 rfl hir ?_)
        | (refine wpList_store_row rfl 31 (.tmp 2) (.tmp 33) rfl w.heap.size ROW rfl rfl 31 _ q0 hir (unhide hzz) hor ?_))
      refine bodyPost_ret (results_row_tmp rfl _ _ w.heap.size _ _ _ _ rfl (setRow_heap _ _ _ _ _ _ q0) Tryz.underlying31 rfl hir) rfl ⟨ROW, by rw [← unhide HEE0, if_neg (unhide hc'), if_neg (unhide HW)]; rfl, below_setRow hb (Nat.le_refl _) _, fun h => absurd (by rw [← unhide HEE0, if_neg (unhide hc'), if_neg (unhide HW)]) h, fun _ => ?_⟩
      obtain ⟨v1, v2, v3, e, d1, d2, d3⟩ := unhide HF
      exact ⟨v1, v2, v3, by rw [← unhide HR, e], d1.keep (fun k hk _ => (setRow_other _ _ _ _ (by omega)).trans (unhide HK k (by omega))) (by omega), d2.keep (fun k hk _ => (setRow_other _ _ _ _ (by omega)).trans (unhide HK k (by omega))) (by omega), d3.keep (fun k hk _ => (setRow_other _ _ _ _ (by omega)).trans (unhide HK k (by omega))) (by omega)⟩
  · have hE' : (E != 0) = true := by simp [hE]
    have HEE := hide hE
    have q0 := L4.res
    have hb := L4.below
    clear hE csd' HE L4
    go_wp2_with (refine wpList_store_row rfl 31 (.tmp 2) (.tmp 25) rfl w.heap.size stopO rfl rfl 31 _ q0 hiz rfl hoz ?_)
    exact bodyPost_ret (results_row_tmp rfl _ _ w.heap.size _ _ _ _ rfl (setRow_heap _ _ _ _ _ _ q0) Tryz.underlying31 rfl hiz) rfl ⟨stopO, by rw [← unhide HEE0, if_pos (unhide HEE)]; rfl, below_setRow hb (Nat.le_refl _) _, fun _ => rfl, fun h => by rw [← unhide HEE0, if_pos (unhide HEE)] at h; exact absurd h (unhide HEE)⟩
end Go.Proofs.YtocibklkpnblgaaGreatDoor

namespace Go.Proofs.YtocibklkpnblgaaGreatDoor
open Go.RowKit
set_option linter.unusedSimpArgs false
set_option linter.unusedVariables false

def hexList : List UInt8 := [48, 49, 50, 51, 52, 53, 54, 55, 56, 57, 97, 98, 99, 100, 101, 102]
def hexd (n : Nat) : UInt8 := hexList.getD n 0
theorem str_index (l : List UInt8) (n : Nat) (h : n < l.length) (w : World) : (Instr.index 9 (.string (str l)) (.int .i64 (n : Int))).run Tryz.prog w = .ok (.int .u8 ((l.getD n 0).toNat : Int)) w := by
  rw [run_index_string w 9 _ .i64 n Tryz.underlying9, dif_pos ⟨by omega, by rw [str_size]; omega⟩]
  simp only [Int.toNat_natCast]
  rw [byte_at (str l) n (by rw [str_size]; exact h), str_toList]
theorem hex_index (n : Nat) (h : n < 16) (w : World) : (Instr.index 9 (.string ⟨#[48, 49, 50, 51, 52, 53, 54, 55, 56, 57, 97, 98, 99, 100, 101, 102]⟩) (.int .u8 (n : Int))).run Tryz.prog w = .ok (.int .u8 ((hexd n).toNat : Int)) w := by
  rw [run_index_string w 9 _ .u8 n Tryz.underlying9, dif_pos ⟨by omega, by show (n : Int) < 16; omega⟩]
  have : ∀ n : Nat, n < 16 → ∀ h', ((⟨#[48, 49, 50, 51, 52, 53, 54, 55, 56, 57, 97, 98, 99, 100, 101, 102]⟩ : ByteArray)[n]'h').toNat = (hexd n).toNat := by decide
  simp only [Int.toNat_natCast]
  rw [this n h]

end Go.Proofs.YtocibklkpnblgaaGreatDoor

namespace Go.Proofs.YtocibklkpnblgaaGreatDoor
open Go.RowKit
set_option linter.unusedSimpArgs false
set_option linter.unusedVariables false

def DdAt (w : World) (g : Nat) (r : Rd) : Prop := w.heap[g]? = some (.cells r.cells 63 (0, 0))
theorem DdAt.lt {w : World} {g : Nat} {r : Rd} (h : DdAt w g r) : g < w.heap.size := (Array.getElem?_eq_some_iff.1 h).1
theorem DdAt.below {w w' : World} {g : Nat} {r : Rd} (h : DdAt w g r) (hb : Below w.heap.size w w') : DdAt w' g r := (hb.block g h.lt).trans h
theorem DdAt.c0 {w : World} {g : Nat} {r : Rd} (h : DdAt w g r) : w.cell? ⟨g, 0, none⟩ = some (.string (str r.rest)) := cell_of_row _ _ _ _ _ _ h
theorem DdAt.c1 {w : World} {g : Nat} {r : Rd} (h : DdAt w g r) : w.cell? ⟨g, 1, none⟩ = some (.int .i64 r.err) := cell_of_row _ _ _ _ _ _ h
theorem DdAt.f0 {w : World} {g : Nat} {r : Rd} (h : DdAt w g r) (o : Nat) : w.frozen? ⟨g, o, none⟩ = false := frozen_of_row _ _ _ _ _ h
theorem DdAt.set1 {w : World} {g : Nat} {r : Rd} (h : DdAt w g r) (e : Int) : DdAt (w.setCell ⟨g, 1, none⟩ (.int .i64 e)) g ⟨r.rest, e⟩ := heap_setCell_same _ _ _ _ _ _ h
theorem DdAt.set0 {w : World} {g : Nat} {r : Rd} (h : DdAt w g r) (l : List UInt8) : DdAt (w.setCell ⟨g, 0, none⟩ (.string (str l))) g ⟨l, r.err⟩ := heap_setCell_same _ _ _ _ _ _ h
theorem DdAt.other {g G o : Nat} {w : World} {r : Rd} (h : DdAt w g r) (hG : g ≠ G) (v : Value) : DdAt (w.setCell ⟨G, o, none⟩ v) g r :=
  (heap_setCell_other _ _ _ _ (by show g ≠ G; exact hG)).trans h

theorem dfail_calls (g : Nat) (r : Rd) (k : Int) (w : World) (h : DdAt w g r) :
    Calls Tryz.prog 48 #[.pointer (some ⟨g, 0, none⟩), .int .i64 k] w fun e w' => e = .returned (.tuple #[]) ∧ DdAt w' g (r.fail k) ∧ Turned g w w' := by
  have c1 := h.c1
  have f1 := h.f0 1
  by_cases h0 : r.err = 0
  · have e1 : (r.err == 0) = true := by simpa using h0
    have hr : r.fail k = ⟨r.rest, k⟩ := by rw [Rd.fail, if_pos h0]
    have H := hide h
    rw [hr]
    generalize r.err = re at *
    clear h0 h hr
    go_enter Tryz.func48, Tryz.ntmps48
    go_wp2
    go_end0
    exact ⟨rfl, (unhide H).set1 k, (Turned.refl _ _).setCell _⟩
  · have e1 : (r.err == 0) = false := by simpa using h0
    have hr : r.fail k = r := by rw [Rd.fail, if_neg h0]
    have H := hide h
    rw [hr]
    clear h0 h hr
    go_enter Tryz.func48, Tryz.ntmps48
    go_wp2
    go_end0
    exact ⟨rfl, unhide H, Turned.refl _ _⟩
theorem dend_calls (g : Nat) (r : Rd) (w : World) (h : DdAt w g r) :
    Calls Tryz.prog 28 #[.pointer (some ⟨g, 0, none⟩)] w fun e w' => e = .returned (.int .i64 r.end') ∧ w' = w := by
  have c0 := h.c0
  have c1 := h.c1
  clear h
  by_cases h0 : r.err = 0
  · have e1 : (r.err == 0) = true := by simpa using h0
    by_cases h1 : r.rest = []
    · have hr : r.end' = r.err := by simp [Rd.end', h0, h1]
      have hd : decide (0 < r.rest.length) = false := by simp [h1]
      have hd' : decide (0 < (r.rest.length : Int)) = false := by simp [h1]
      rw [hr]
      generalize r.err = re at *
      clear hr h0 h1
      go_enter Tryz.func28, Tryz.ntmps28
      go_wp2
      go_ret
      exact ⟨rfl, rfl⟩
    · have hr : r.end' = 4 := by simp [Rd.end', h0, h1]
      have hlen : 0 < r.rest.length := List.length_pos_iff.2 h1
      have hd : decide (0 < r.rest.length) = true := by simpa using hlen
      have hd' : decide (0 < (r.rest.length : Int)) = true := by simp; omega
      rw [hr]
      generalize r.err = re at *
      clear hr h0 h1
      go_enter Tryz.func28, Tryz.ntmps28
      go_wp2
      go_ret
      exact ⟨rfl, rfl⟩
  · have e1 : (r.err == 0) = false := by simpa using h0
    have hr : r.end' = r.err := by simp [Rd.end', h0]
    rw [hr]
    clear hr h0
    go_enter Tryz.func28, Tryz.ntmps28
    go_wp2
    go_ret
    exact ⟨rfl, rfl⟩
set_option maxHeartbeats 1000000 in
theorem dtake_calls (g n : Nat) (hn : n ≤ 4611686018427387904) (r : Rd) (hl : r.rest.length ≤ 4611686018427387904) (w : World) (h : DdAt w g r) :
    Calls Tryz.prog 47 #[.pointer (some ⟨g, 0, none⟩), .int .i64 (n : Int)] w fun e w' => e = .returned (.string (str (r.take n).1)) ∧ DdAt w' g (r.take n).2 ∧ Turned g w w' := by
  have c0 := h.c0
  have c1 := h.c1
  have f0 := h.f0 0
  have f1 := h.f0 1
  by_cases h0 : r.err = 0
  · have e0 : (r.err == 0) = true := by simpa using h0
    have e0' : (r.err != 0) = false := by simpa using h0
    by_cases h1 : r.rest.length < n
    · have hd : decide (r.rest.length < n) = true := by simp; omega
      have hr : r.take n = ([], ⟨r.rest, 3⟩) := by simp [Rd.take, h0, h1]
      rw [hr]
      have H := hide h
      clear hr h0 h1 h
      go_enter Tryz.func47, Tryz.ntmps47
      go_wp2
      go_ret
      exact ⟨rfl, (unhide H).set1 3, (Turned.refl _ _).setCell _⟩
    · have hd : decide (r.rest.length < n) = false := by simp; omega
      have hr : r.take n = (r.rest.take n, ⟨r.rest.drop n, 0⟩) := by simp [Rd.take, h0, h1]
      rw [hr]
      have H := hide h
      have H0 := hide h0
      have es := take_str r.rest n
      have ed := drop_str r.rest n _ rfl
      have b0 : (n : Int) ≤ (r.rest.length : Int) := by omega
      clear hr h0 h1 h
      go_enter Tryz.func47, Tryz.ntmps47
      go_wp2
      go_ret
      have h2 := (unhide H).set0 (r.rest.drop n)
      rw [unhide H0] at h2
      exact ⟨rfl, h2, (Turned.refl _ _).setCell _⟩
  · have e0 : (r.err == 0) = false := by simpa using h0
    have e0' : (r.err != 0) = true := by simpa using h0
    have hr : r.take n = ([], r) := by simp [Rd.take, h0]
    rw [hr]
    have H := hide h
    clear hr h0 h
    go_enter Tryz.func47, Tryz.ntmps47
    go_wp2
    go_ret
    exact ⟨rfl, unhide H, Turned.refl _ _⟩
set_option maxHeartbeats 400000 in
theorem dnumber_calls (g n : Nat) (hn : n ≤ 8) (r : Rd) (hl : r.rest.length ≤ 4611686018427387904) (w : World) (h : DdAt w g r) :
    Calls Tryz.prog 25 #[.pointer (some ⟨g, 0, none⟩), .int .i64 (n : Int)] w fun e w' => e = .returned (.int .u64 ((r.num n).1 : Int)) ∧ DdAt w' g (r.num n).2 ∧ Turned g w w' := by
  have ht := dtake_calls g n (by omega) r hl w h
  have hlen := Nat.le_trans (r.take_length n) hn
  unfold Rd.num
  simp only
  generalize (r.take n).2 = r' at *
  generalize (r.take n).1 = l at *
  have Ht := hide ht
  clear ht h
  go_enter Tryz.func25, Tryz.ntmps25
  go_wp2_with fail
  refine (unhide Ht).mono ?_
  rintro e w1 ⟨rfl, hD, hT⟩
  have HD := hide hD
  have HT := hide hT
  clear hD hT
  go_wp2
  go_loopw [5, 7] (fun a i wr => ∃ k : Nat, k ≤ l.length ∧ a = .int .u64 (pNum (l.take k) : Int) ∧ i = .int .i64 (k : Int) ∧ wr = w1) (fun _ i _ => l.length - (intOf i).toNat)
  case atStart => exact ⟨0, by omega, rfl, rfl, rfl⟩
  case round =>
    obtain ⟨k, hk, rfl, rfl, rfl⟩ := hrel
    by_cases hlt : k < l.length
    · have c := str_index l k hlt
      have hsn := take_snoc' l k 0 hlt
      generalize hb : l.getD k 0 = b at *
      have hpn := pNum_snoc (l.take k) b
      rw [← hsn] at hpn
      have hlt2 := pNum_lt (l.take k)
      have hm : pNum (l.take k) < 72057594037927936 := Nat.lt_of_lt_of_le hlt2 (by
        have : (l.take k).length ≤ 7 := by simp; omega
        calc 256 ^ (l.take k).length ≤ 256 ^ 7 := Nat.pow_le_pow_right (by decide) this
          _ = 72057594037927936 := by decide)
      generalize pNum (l.take k) = m at *
      have hb8 := b.toNat_lt
      have hd : decide (k < l.length) = true := by simpa using hlt
      have b1 : (k : Int) < (l.length : Int) := by omega
      have Hpn := hide hpn
      clear hpn hsn hb hlt2
      go_wp2
      go_roundw
      case rel =>
        refine ⟨k + 1, by omega, ?_, by go_num, trivial⟩
        rw [unhide Hpn]
        congr 1
      case measure => simp [intOf]; omega
    · obtain rfl : k = l.length := by omega
      have hd : decide (l.length < l.length) = false := by simp
      rw [List.take_length]
      go_wp2
      go_ret
      exact ⟨rfl, unhide HD, unhide HT⟩
/-- Behind a failure nothing is taken, however much. -/
theorem Rd.take_bad (r : Rd) (n m : Nat) (h : r.err ≠ 0) : r.take n = r.take m := by simp [Rd.take, h]
end Go.Proofs.YtocibklkpnblgaaGreatDoor

namespace Go.Proofs.YtocibklkpnblgaaGreatDoor
open Go Go.RowKit
set_option linter.unusedSimpArgs false
set_option linter.unusedVariables false

theorem fill_one {s : Nat} (hs : 0 < s) (cs cells : Array Value) (hc : cs.size = s) (hz : cells.size = s) : Instr.fill (fun i => some (i * s, s)) cells [(0, .agg cs)] = some cs := by
  obtain ⟨r, hr, hsz, hk⟩ := Great.fill_dense hs [.agg cs] 0 cells (by simp [Value.cells, hc]) (by simp [hz])
  have e : r = cs := by
    apply Array.ext_getElem?
    intro k
    rw [hk k]
    by_cases h : k < s
    · rw [if_pos (by simp; omega)]
      simp [Nat.div_eq_of_lt h, Nat.mod_eq_of_lt h, Value.cells]
    · rw [if_neg (by simp; omega), Array.getElem?_eq_none (by omega), Array.getElem?_eq_none (by omega)]
  rw [e] at hr
  exact hr
theorem rowInfo {P : Program} {e : TypeId} {s b : Nat} (hi : (P.info? e).map (fun i => (i.size, i.bytes, i.zero.map (·.cells.size))) = some (s, b, some s)) : ∃ i z, P.info? e = some i ∧ i.zero = some z ∧ i.size = s ∧ i.bytes = b ∧ z.cells.size = s := by
  cases hq : P.info? e with
  | none => rw [hq] at hi; cases hi
  | some i =>
    rw [hq] at hi
    simp only [Option.map_some, Option.some.injEq, Prod.mk.injEq] at hi
    obtain ⟨h1, h2, h3⟩ := hi
    cases hz : i.zero with
    | none => rw [hz] at h3; cases h3
    | some z =>
      rw [hz] at h3
      simp only [Option.map_some, Option.some.injEq] at h3
      exact ⟨i, z, rfl, hz, h1, h2, h3⟩
theorem wpList_build_one {P : Program} {ops : Array Oper} {rest : List Oper} {o : Oper} {a : Act} {w : World} {Q : Exit → Act → World → Prop} (hg : o.guard = none) (t e : TypeId) (x : Operand) (ho : o.op = .buildSlice t 1 #[(0, x)]) (s b : Nat) (hs : 0 < s) (hs2 : s ≤ 1000)
    (cs : Array Value) (hx : a.eval x = .agg cs) (hc : cs.size = s) (hu : P.underlying t = some (.slice e)) (hi : (P.info? e).map (fun i => (i.size, i.bytes, i.zero.map (·.cells.size))) = some (s, b, some s))
    (h : wpList P ops Q rest (a.put o.dst (.slice (some ⟨w.heap.size, 0, none⟩) 1 1)) (w.alloc (.cells cs e))) : wpList P ops Q (o :: rest) a w := by
  obtain ⟨i, z, hie, hz, h1, h2, h3⟩ := rowInfo hi
  refine wpList_buildSlice hg t e 1 #[(0, x)] ho cs i z hu hie hz (by rw [h1]; omega) (by rw [h1]; omega) ?_ h
  rw [h1, show (#[(0, x)].map fun (p : Nat × Operand) => (p.1, a.eval p.2)).toList = [(0, .agg cs)] by simp [hx]]
  exact fill_one hs cs _ hc (by simp)
theorem wpList_append_one {P : Program} {ops : Array Oper} {rest : List Oper} {o : Oper} {a : Act} {Q : Exit → Act → World → Prop} (hgd : o.guard = none) (t e : TypeId) (sx x : Operand)
    (ho : o.op = .call { callee := .builtin .append, args := #[sx, x], argTypes := #[t, t] }) (s b : Nat) (hs : 0 < s) (hb2 : b ≤ 100000) (hu : P.underlying t = some (.slice e)) (hi : (P.info? e).map (fun i => (i.size, i.bytes, i.zero.map (·.cells.size))) = some (s, b, some s))
    (B : Nat) (v : Value) (n : Nat) (xs : List Value) (hv : a.eval sx = v) (wr : World) (hown : wr.ownsRow B e s v n xs) (hB : B ≤ wr.heap.size) (cs : Array Value) (hc : cs.size = s) (h1 : cs.all (·.oneCell') = true)
    (hx : a.eval x = .slice (some ⟨wr.heap.size, 0, none⟩) 1 1) (hlen : n + 1 ≤ 1048576)
    (h : ∀ v' w', w'.ownsRow B e s v' (n + 1) (xs ++ cs.toList) → Below B wr w' → (∀ k, k < wr.heap.size → some k ≠ v.ownBlock → w'.heap[k]? = wr.heap[k]?) → wpList P ops Q rest (a.put o.dst v') w') : wpList P ops Q (o :: rest) a (wr.alloc (.cells cs e)) := by
  obtain ⟨i, z, hie, hz, e1, e2, e3⟩ := rowInfo hi
  refine wpList_append_own _ hgd sx x t ho B e i z s b hu hie hz e1 e2 e3 hs v n xs hv (hown.alloc _) ⟨wr.heap.size, 0, none⟩ 1 1 cs.toList hx (by simp [hc]) ?_ ?_ (by unfold maxLen; omega) ?_ (by rw [World.size_alloc]; omega) ?_
  · intro j u hj
    rw [show (⟨wr.heap.size, 0, none⟩ : Addr).add j = ⟨wr.heap.size, j, none⟩ by unfold Addr.add; split <;> simp_all, cell_of_row _ _ _ _ _ _ (al1 wr (.cells cs e))]
    rw [← Array.getElem?_toList]; exact hj
  · intro u hu'
    exact Array.all_eq_true_iff_forall_mem.1 h1 u (Array.mem_toList_iff.1 hu')
  · exact Nat.le_trans (Nat.mul_le_mul hlen hb2) (by decide)
  · intro v' w' ho' hg _
    have kept : ∀ k, k < wr.heap.size → some k ≠ v.ownBlock → w'.heap[k]? = wr.heap[k]? := fun k hk hn => (hg.block k (by rw [World.size_alloc]; omega) hn).trans (Below.heap_alloc wr _ k hk)
    refine h v' w' ho' ?_ kept
    have hA := (Below.refl B wr).alloc hB (.cells cs e)
    refine hA.trans ⟨hg.os, hg.tape, hg.output, hg.size, fun k hk => hg.block k (by rw [World.size_alloc]; omega) ?_⟩
    intro hc'
    have := (hown.lt k hc'.symm).1
    omega
end Go.Proofs.YtocibklkpnblgaaGreatDoor

namespace Go.Proofs.YtocibklkpnblgaaGreatDoor
open Go Go.RowKit
set_option linter.unusedSimpArgs false
set_option linter.unusedVariables false

theorem DdAt.alloc {g : Nat} {w : World} {r : Rd} (h : DdAt w g r) (o : Obj) : DdAt (w.alloc o) g r := (Below.heap_alloc w o g h.lt).trans h
set_option maxHeartbeats 1000000 in
set_option maxRecDepth 100000 in
theorem ddigest_calls (g : Nat) (r : Rd) (hl : r.rest.length ≤ 4611686018427387904) (w : World) (h : DdAt w g r) :
    Calls Tryz.prog 26 #[.pointer (some ⟨g, 0, none⟩)] w fun e w' => e = .returned (.agg (bc (pad32 (r.take 32).1))) ∧ DdAt w' g (r.take 32).2 ∧ Turned g w w' := by
  have hg := h.lt
  have hlen : (r.take 32).1.length ≤ 32 := r.take_length 32
  have q0 := (al2 w (.cells (bc (List.replicate 32 0)) 24) (.cells (bc (List.replicate 32 0)) 24)).1
  have q1 := (al2 w (.cells (bc (List.replicate 32 0)) 24) (.cells (bc (List.replicate 32 0)) 24)).2
  have hb2 := bel2 w (.cells (bc (List.replicate 32 0)) 24) (.cells (bc (List.replicate 32 0)) 24)
  have t0 := Turned.of_below hb2 (Nat.le_of_lt hg)
  have ht := dtake_calls g 32 (by omega) r hl _ (h.below hb2)
  generalize (r.take 32).2 = r' at *
  generalize (r.take 32).1 = l at *
  have Ht := hide ht
  clear ht h hb2
  go_enter Tryz.func26, Tryz.ntmps26
  go_wp2_with fail
  refine (unhide Ht).mono ?_
  generalize hW : (w.alloc (.cells (bc (List.replicate 32 0)) 24)).alloc (.cells (bc (List.replicate 32 0)) 24) = W at *
  clear hW Ht
  rintro e w1 ⟨rfl, D, T⟩
  have p0 := T.row (by omega) q0
  have p1 := T.row (by omega) q1
  have T1 := t0.trans T
  have HD := hide D
  have H0 := hide p0
  have H1 := hide p1
  have HT := hide T1
  clear T t0 q0 q1 D p0 p1 T1
  go_wp2
  go_loopw [5] (fun i wr => ∃ k : Nat, k ≤ l.length ∧ i = .int .i64 (k : Int) ∧ DdAt wr g r' ∧ Turned g w wr ∧ wr.heap[w.heap.size]? = some (.cells (bc (List.replicate 32 0)) 24 (0, 0)) ∧ wr.heap[w.heap.size + 1]? = some (.cells (bc (l.take k ++ List.replicate (32 - k) 0)) 24 (0, 0))) (fun i _ => l.length - (intOf i).toNat)
  case atStart => exact ⟨0, by omega, rfl, unhide HD, unhide HT, unhide H0, unhide H1⟩
  case round =>
    obtain ⟨k, hk, rfl, D, T, p0, p1⟩ := hrel
    clear HD HT H0 H1
    by_cases hlt : k < l.length
    · have c := str_index l k hlt
      have hsn := take_snoc' l k 0 hlt
      generalize hb : l.getD k 0 = b at *
      have hd : decide (k < l.length) = true := by simpa using hlt
      have b1 : (k : Int) < (l.length : Int) := by omega
      have b2 : (k : Int) < 32 := by omega
      have hsp : l.take k ++ List.replicate (32 - k) (0 : UInt8) = l.take k ++ 0 :: List.replicate (32 - (k + 1)) 0 := by
        rw [show 32 - k = (32 - (k + 1)) + 1 by omega, List.replicate_succ]
      rw [hsp] at p1
      have hkl : (l.take k).length = k := by rw [List.length_take]; omega
      have cc : wr.cell? ⟨w.heap.size + 1, k, none⟩ = some (.int .u8 (((l.take k ++ 0 :: List.replicate (32 - (k + 1)) (0 : UInt8)).getD k 0).toNat : Int)) := by
        rw [cell_of_row _ _ _ _ _ _ p1]; exact bc_at _ _ (by simp; omega)
      generalize (l.take k ++ 0 :: List.replicate (32 - (k + 1)) (0 : UInt8)).getD k 0 = old at cc
      have f : wr.frozen? ⟨w.heap.size + 1, k, none⟩ = false := frozen_of_row _ _ _ _ _ p1
      have P0 := hide p0
      have P1 := hide p1
      have HD := hide D
      have HT := hide T
      have HS := hide hsn
      have HK := hide hkl
      clear p0 p1 D T hsp hb hsn hkl
      go_wp2
      go_roundw
      case rel =>
        refine ⟨k + 1, by omega, by go_num, (unhide HD).other (by omega) _, (unhide HT).setNew (by omega) (by omega) _, ?_, ?_⟩
        · rw [heap_setCell_other _ _ _ _ (by show w.heap.size ≠ w.heap.size + 1; omega)]; exact unhide P0
        · have e := bc_set (l.take k) (List.replicate (32 - (k + 1)) 0) 0 b k (unhide HK).symm
          rw [heap_setCell_same _ _ _ _ _ _ (unhide P1), e, unhide HS]
      case measure => simp [intOf]; omega
    · obtain rfl : k = l.length := by omega
      have hd : decide (l.length < l.length) = false := by simp
      rw [List.take_length] at p1
      have hpl := pad32_length l hlen
      have hp : l ++ List.replicate (32 - l.length) 0 = pad32 l := rfl
      rw [hp] at p1
      generalize hpd : pad32 l = d at *
      have HPD := hide hpd
      clear hpd
      have hil : (Tryz.prog.info? 24).map (·.size) = some (bc d).size := by rw [bc_size, hpl]; kernel_rfl
      have hsz2 : (bc (List.replicate 32 (0 : UInt8))).size = (bc d).size := by rw [bc_size, bc_size, hpl]; rfl
      have ho1 := bc_oneCell d
      have HD := hide D
      have HT := hide T
      clear D T hp hpl
      go_wp2_with (first
        | (refine wpList_load_row rfl 24 (.tmp 3) rfl (w.heap.size + 1) rfl 24 _ (0, 0) _ p1 Tryz.underlying24 rfl hil ?_)
        | (refine wpList_store_row rfl 24 (.tmp 2) (.tmp 19) rfl w.heap.size _ rfl rfl 24 _ p0 hil hsz2 ho1 ?_))
      refine bodyPost_ret (results_cell_row rfl _ _ w.heap.size _ _ _ _ rfl (setRow_heap _ _ _ _ _ _ p0) Tryz.underlying24 rfl hil) rfl ⟨by rw [unhide HPD], (setRow_other _ _ _ _ (by omega)).trans (unhide HD), ?_⟩
      exact ⟨below_setRow (unhide HT).below (by omega) _, fun k hk hkg => (setRow_other _ _ _ _ (by omega)).trans ((unhide HT).kept k hk hkg)⟩
theorem dmany_calls (g : Nat) (r : Rd) (hl : r.rest.length ≤ 4611686018427387904) (most : Nat) (hm : most < 4294967296) (w : World) (h : DdAt w g r) :
    Calls Tryz.prog 66 #[.pointer (some ⟨g, 0, none⟩), .int .i64 (most : Int)] w fun e w' => ∃ m : Nat, e = .returned (.int .i64 (m : Int)) ∧ DdAt w' g (r.len (most : Int)).2 ∧ Turned g w w' ∧ m ≤ most ∧ ((r.len (most : Int)).2.err = 0 → m = (r.len (most : Int)).1) := by
  have hn := dnumber_calls g 4 (by decide) r hl w h
  have hlt : (r.num 4).1 < 4294967296 := r.num_lt 4
  unfold Rd.len
  simp only
  generalize (r.num 4).2 = r1 at *
  generalize (r.num 4).1 = m at *
  have Hn := hide hn
  have hm1 : decide ((most : Int) < 0) = false := by simp
  have hm2 : decide ((most : Int) ≥ 0) = true := by simp
  clear hn h
  by_cases hc : most < m
  · have hc' : 0 < m ∧ (most : Int) < (m : Int) := by omega
    rw [if_pos hc']
    have hcd : decide (most < m) = true := by simpa using hc
    have hbad : (r1.fail 5).err ≠ 0 := by unfold Rd.fail; split <;> simp_all
    have Hf := hide fun W hW => dfail_calls g r1 5 W hW
    generalize r1.fail 5 = r2 at *
    have Hb := hide hbad
    clear hc' hbad hc
    go_enter Tryz.func66, Tryz.ntmps66
    go_wp2_with fail
    refine (unhide Hn).mono ?_
    rintro e w1 ⟨rfl, D1, T1⟩
    go_wp2_with fail
    refine (unhide Hf _ D1).mono ?_
    rintro e w2 ⟨rfl, D2, T2⟩
    go_wp2
    go_ret
    exact ⟨0, rfl, D2, T1.trans T2, by omega, fun h => absurd h (unhide Hb)⟩
  · have hc' : ¬ (0 < m ∧ (most : Int) < (m : Int)) := by omega
    rw [if_neg hc']
    have hcd : decide (most < m) = false := by simpa using hc
    have Hc := hide hc
    clear hc' hc
    go_enter Tryz.func66, Tryz.ntmps66
    go_wp2_with fail
    refine (unhide Hn).mono ?_
    rintro e w1 ⟨rfl, D1, T1⟩
    go_wp2
    go_ret
    exact ⟨m, rfl, D1, T1, by have := unhide Hc; omega, fun _ => rfl⟩
/-- A list of digests that the call owns. -/
def DL4 (B : Nat) (w : World) (v : Value) (l : List UInt8) : Prop := ∃ n, l.length = 32 * n ∧ w.ownsRow B 24 32 v n (Lib.byteCells l)
theorem DL4.form {B : Nat} {w : World} {v : Value} {l : List UInt8} (h : DL4 B w v l) : ∃ p n c, v = .slice p n c ∧ Digs w v l := by
  obtain ⟨n, hl, h1, h2⟩ := h
  rcases h2 with ⟨rfl, h0⟩ | ⟨g, cap, cur, rfl, hB, hg, hc, hm, hs, ht⟩
  · exact ⟨_, _, _, rfl, _, _, _, rfl, by omega, fun h => absurd h (Nat.lt_irrefl 0)⟩
  · refine ⟨_, _, _, rfl, _, _, _, rfl, hl, fun _ => ⟨g, 0, rfl, (Array.getElem?_eq_some_iff.1 hg).1, fun j hj => ?_⟩⟩
    have hjc : j < n * 32 := by omega
    have e : cur[j]? = (Lib.byteCells l)[j]? := by
      rw [← ht, List.getElem?_take, if_pos hjc, Array.getElem?_toList]
    rw [Nat.zero_add, cell_of_row _ _ _ _ _ _ hg, e]
    have := bc_at l j hj
    rw [bc, List.getElem?_toArray] at this
    exact this
theorem DL4.keep {B C : Nat} {w w' : World} {v : Value} {l : List UInt8} (h : DL4 B w v l) (hk : ∀ k, B ≤ k → k < w.heap.size → w'.heap[k]? = w.heap[k]?) (hC : C ≤ B) : DL4 C w' v l := by
  obtain ⟨n, hl, h1, h2⟩ := h
  refine ⟨n, hl, h1, ?_⟩
  rcases h2 with ⟨rfl, h0⟩ | ⟨g, cap, cur, rfl, hB, hg, hc, hm, hs, ht⟩
  · exact .inl ⟨rfl, h0⟩
  · exact .inr ⟨g, cap, cur, rfl, by omega, (hk g hB (Array.getElem?_eq_some_iff.1 hg).1).trans hg, hc, hm, hs, ht⟩
theorem DL4.below {B : Nat} {w w' : World} {v : Value} {l : List UInt8} (h : DL4 B w v l) (hb : Below w.heap.size w w') : DL4 B w' v l :=
  h.keep (fun k _ hk => hb.block k hk) (Nat.le_refl _)
theorem DL4.one {B : Nat} {w : World} {v : Value} {l : List UInt8} (h : DL4 B w v l) : v.oneCell' = true := by
  obtain ⟨p, n, c, rfl, _⟩ := h.form
  rfl
theorem DL4.nil (B : Nat) (w : World) : DL4 B w (.slice none 0 0) [] := ⟨0, rfl, rfl, .inl ⟨rfl, rfl⟩⟩
theorem digRowInfo : (Tryz.prog.info? 24).map (fun i => (i.size, i.bytes, i.zero.map (·.cells.size))) = some (32, 32, some 32) := by kernel_rfl

set_option maxHeartbeats 1000000 in
set_option maxRecDepth 100000 in
theorem ddigests_calls (g : Nat) (r : Rd) (hl : r.rest.length ≤ 4611686018427387904) (most : Nat) (hm : most ≤ 1000) (w : World) (h : DdAt w g r) :
    Calls Tryz.prog 49 #[.pointer (some ⟨g, 0, none⟩), .int .i64 (most : Int)] w fun e w' => ∃ v, e = .returned v ∧ DL4 w.heap.size w' v (r.digests (most : Int)).1 ∧ DdAt w' g (r.digests (most : Int)).2 ∧ Turned g w w' := by
  have hg := h.lt
  have k1 := hide (dmany_calls g r hl most (by omega) w h)
  have hrs := r.len_rest (most : Int)
  unfold Rd.digests
  generalize (r.len (most : Int)).2 = r1 at *
  generalize (r.len (most : Int)).1 = n at *
  obtain ⟨R, hR⟩ : ∃ R, r1.take (32 * n) = R := ⟨_, rfl⟩
  rw [hR]
  have HR := hide hR
  clear h hR
  go_enter Tryz.func49, Tryz.ntmps49
  go_wp2_with fail
  refine (unhide k1).mono ?_
  rintro e w1 ⟨m, rfl, D1, T1, hm1, hmn⟩
  have c0 := D1.c0
  have c1 := D1.c1
  have f1 := D1.f0 1
  have HD := hide D1
  have HT := hide T1
  clear k1 D1 T1
  by_cases he : r1.err = 0
  · obtain rfl := hmn he
    have e0 : (r1.err == 0) = true := by simpa using he
    by_cases hlt : r1.rest.length / 32 < m
    · have hd : decide ((r1.rest.length : Int) / 32 < (m : Int)) = true := by simp; omega
      have hr : Hid (R = ([], ⟨r1.rest, 3⟩)) := by
        show R = _
        rw [← unhide HR, Rd.take, if_neg (by simp [he]), if_pos (by omega)]
      have hm0 : decide (0 < m) = true := by simp; omega
      clear HR hlt he hmn
      go_wp2
      have D2 := (unhide HD).set1 3
      have T2 := (unhide HT).setCell (o := 1) (.int .i64 3)
      have c2 := D2.c1
      generalize w1.setCell ⟨g, 1, none⟩ (.int .i64 3) = w2 at *
      go_loopw [6, 7] (fun s i wr => s = .slice none 0 0 ∧ i = .int .i64 0 ∧ wr = w2) (fun _ _ _ => 0)
      case atStart => exact ⟨rfl, rfl, rfl⟩
      case round =>
        obtain ⟨rfl, rfl, rfl⟩ := hrel
        go_wp2
        go_ret
        exact ⟨_, rfl, by rw [unhide hr]; exact DL4.nil _ _, by rw [unhide hr]; exact D2, T2⟩
    · have hd : decide ((r1.rest.length : Int) / 32 < (m : Int)) = false := by simp; omega
      have hr : Hid (R = (r1.rest.take (32 * m), ⟨r1.rest.drop (32 * m), 0⟩)) := by
        show R = _
        rw [← unhide HR, Rd.take, if_neg (by simp [he]), if_neg (by omega)]
      have hlen : 32 * m ≤ r1.rest.length := by omega
      have hD0 : Hid (DdAt w1 g ⟨r1.rest, 0⟩) := by
        have := unhide HD
        show DdAt w1 g ⟨r1.rest, 0⟩
        rw [← he]; exact this
      have hrl : r1.rest.length ≤ 4611686018427387904 := by omega
      clear HR hlt hmn
      go_wp2
      generalize r1.rest = T at *
      clear c0 c1 f1 HD he e0 hd
      go_loopw [6, 7] (fun s i wr => ∃ j : Nat, j ≤ m ∧ i = .int .i64 (j : Int) ∧ wr.ownsRow w.heap.size 24 32 s j (Lib.byteCells (T.take (32 * j))) ∧ DdAt wr g ⟨T.drop (32 * j), 0⟩ ∧ Turned g w wr) (fun _ i _ => m - (intOf i).toNat)
      case atStart => exact ⟨0, by omega, rfl, ⟨by simp [Lib.byteCells], .inl ⟨rfl, rfl⟩⟩, by simpa using unhide hD0, unhide HT⟩
      case round =>
        obtain ⟨j, hj, rfl, hO, D, T1⟩ := hrel
        have c1 := D.c1
        by_cases hjm : j < m
        · have hd : decide (j < m) = true := by simpa using hjm
          have hk := ddigest_calls g ⟨T.drop (32 * j), 0⟩ (by simp; omega) wr D
          have htk : (⟨T.drop (32 * j), 0⟩ : Rd).take 32 = ((T.drop (32 * j)).take 32, ⟨T.drop (32 * (j + 1)), 0⟩) := by
            rw [Rd.take, if_neg (by simp), if_neg (by simp; omega)]
            simp [List.drop_drop, Nat.mul_add]
          rw [htk] at hk
          simp only at hk
          obtain ⟨ch, hch, hcl⟩ : ∃ ch : List UInt8, Hid ((T.drop (32 * j)).take 32 = ch) ∧ ch.length = 32 := ⟨_, rfl, by rw [List.length_take, List.length_drop]; omega⟩
          rw [unhide hch, show pad32 ch = ch by simp [pad32, hcl]] at hk
          have Hk := hide hk
          have HO := hide hO
          have H1 := hide T1
          have HC := hide hcl
          clear hk hO T1 htk D hcl
          go_wp2_with fail
          refine (unhide Hk).mono ?_
          rintro e w2 ⟨rfl, D2, T2⟩
          have hz2 := T2.below.size
          have hzr := (unhide H1).below.size
          have hO2 : w2.ownsRow w.heap.size 24 32 u6 j (Lib.byteCells (T.take (32 * j))) := by
            obtain ⟨x1, x2⟩ := unhide HO
            refine ⟨x1, ?_⟩
            rcases x2 with x2 | ⟨gg, cap, cur, rfl, hB, hgg, hc, hmm, hs, ht⟩
            · exact .inl x2
            · exact .inr ⟨gg, cap, cur, rfl, hB, T2.row (by omega) hgg, hc, hmm, hs, ht⟩
          have hT2 := (unhide H1).trans T2
          have hob : ∀ k, u6.ownBlock = some k → w.heap.size ≤ k := fun k hk => (hO2.lt k hk).1
          have Hob := hide hob
          have HT2 := hide hT2
          have HD2 := hide D2
          have hwz : w.heap.size ≤ w2.heap.size := hT2.below.size
          clear D2 T2 hT2 Hk HO H1 hob hz2 hzr
          go_wp2_with (first
            | (refine wpList_build_one rfl 25 24 (.tmp 43) rfl 32 32 (by decide) (by decide) (bc ch) rfl (by rw [bc_size, unhide HC]) Tryz.underlying25 digRowInfo ?_)
            | (at_builtin; (refine wpList_append_one rfl 25 24 (.tmp 41) (.tmp 44) rfl 32 32 (by decide) (by decide) Tryz.underlying25 digRowInfo w.heap.size u6 j _ rfl w2 hO2 hwz (bc ch) (by rw [bc_size, unhide HC]) (bc_oneCell ch) rfl (by omega) ?_); intro v' w3 o3 b3 k3))
          go_roundw
          case rel =>
            refine ⟨j + 1, by omega, by go_num, ?_, ?_, ?_⟩
            · have e : Lib.byteCells (T.take (32 * (j + 1))) = Lib.byteCells (T.take (32 * j)) ++ (bc ch).toList := by
                rw [show 32 * (j + 1) = 32 * j + 32 by omega, List.take_add, unhide hch]
                simp [Lib.byteCells, bc]
              rw [e]; exact o3
            · exact (k3 g (unhide HD2).lt (fun h => by have := unhide Hob g h.symm; omega)).trans (unhide HD2)
            · have t2 := unhide HT2
              exact ⟨t2.below.trans (b3.mono (by omega)), fun k hk hkg => (k3 k (by omega) (fun h => by have := unhide Hob k h.symm; omega)).trans (t2.kept k hk hkg)⟩
          case measure => simp [intOf]; omega
        · obtain rfl : j = m := by omega
          have hd : decide (j < j) = false := by simp
          go_wp2
          go_ret
          refine ⟨_, rfl, by rw [unhide hr]; exact ⟨j, by simp; omega, hO⟩, by rw [unhide hr]; exact D, T1⟩
  · have e0 : (r1.err == 0) = false := by simpa using he
    have hr : Hid (R = ([], r1)) := by
      show R = _
      rw [← unhide HR, Rd.take, if_pos he]
    clear HR hmn
    go_wp2
    go_loopw [6, 7] (fun s i wr => s = .slice none 0 0 ∧ i = .int .i64 0 ∧ wr = w1) (fun _ _ _ => 0)
    case atStart => exact ⟨rfl, rfl, rfl⟩
    case round =>
      obtain ⟨rfl, rfl, rfl⟩ := hrel
      by_cases hm0 : 0 < m
      · have hd : decide (0 < m) = true := by simpa using hm0
        go_wp2
        go_ret
        exact ⟨_, rfl, by rw [unhide hr]; exact DL4.nil _ _, by rw [unhide hr]; exact unhide HD, unhide HT⟩
      · have hd : decide (0 < m) = false := by simpa using hm0
        go_wp2
        go_ret
        exact ⟨_, rfl, by rw [unhide hr]; exact DL4.nil _ _, by rw [unhide hr]; exact unhide HD, unhide HT⟩
end Go.Proofs.YtocibklkpnblgaaGreatDoor

namespace Go.Proofs.YtocibklkpnblgaaGreatDoor
open Go Go.RowKit
set_option linter.unusedSimpArgs false
set_option linter.unusedVariables false

structure SSt (g : Nat) (w wi : World) (row : Array Value) (r : Rd) : Prop where
  tr : Turned g w wi
  res : wi.heap[w.heap.size]? = some (.cells sig0 27 (0, 0))
  x : wi.heap[w.heap.size + 1]? = some (.cells row 27 (0, 0))
  rd : DdAt wi g r
theorem SSt.turn {g : Nat} {w wi w' : World} {row : Array Value} {r r' : Rd} (hg : g < w.heap.size) (h : SSt g w wi row r) (R : DdAt w' g r') (H : Turned g wi w') : SSt g w w' row r' :=
  ⟨h.tr.trans H, H.row (by omega) h.res, H.row (by omega) h.x, R⟩
theorem SSt.set {g : Nat} {w wi : World} {row row' : Array Value} {r : Rd} (hg : g < w.heap.size) (h : SSt g w wi row r) (j : Nat) (v : Value) (e : row.setIfInBounds j v = row') : SSt g w (wi.setCell ⟨w.heap.size + 1, j, none⟩ v) row' r := by
  refine ⟨h.tr.setNew (by omega) (by omega) _, ?_, ?_, h.rd.other (by omega) _⟩
  · rw [heap_setCell_other _ _ _ _ (by show w.heap.size ≠ w.heap.size + 1; omega)]; exact h.res
  · rw [← e]; exact heap_setCell_same _ _ _ _ _ _ h.x
theorem SSt.cell {g : Nat} {w wi : World} {row : Array Value} {r : Rd} (h : SSt g w wi row r) (j : Nat) (v : Value) (e : row[j]? = some v) : wi.cell? ⟨w.heap.size + 1, j, none⟩ = some v := (cell_of_row _ _ _ _ _ _ h.x).trans e
theorem SSt.frozen {g : Nat} {w wi : World} {row : Array Value} {r : Rd} (h : SSt g w wi row r) (j : Nat) : wi.frozen? ⟨w.heap.size + 1, j, none⟩ = false := frozen_of_row _ _ _ _ _ h.x
theorem SSt.lt {g : Nat} {w wi : World} {row : Array Value} {r : Rd} (h : SSt g w wi row r) : w.heap.size + 1 < wi.heap.size := (Array.getElem?_eq_some_iff.1 h.x).1
theorem DL4.set {B G o : Nat} {w : World} {v : Value} {l : List UInt8} (h : DL4 B w v l) (hG : G < B) (u : Value) : DL4 B (w.setCell ⟨G, o, none⟩ u) v l :=
  h.keep (fun k hk _ => heap_setCell_other _ _ _ _ (by show k ≠ G; omega)) (Nat.le_refl _)
theorem DL4.turn {B g : Nat} {w w' : World} {v : Value} {l : List UInt8} (h : DL4 B w v l) (hg : g < B) (H : Turned g w w') : DL4 B w' v l :=
  h.keep (fun k hk hz => H.kept k hz (by omega)) (Nat.le_refl _)
theorem DL4.mono {B C : Nat} {w : World} {v : Value} {l : List UInt8} (h : DL4 B w v l) (hC : C ≤ B) : DL4 C w v l := h.keep (fun _ _ _ => rfl) hC

set_option maxHeartbeats 2000000 in
set_option maxRecDepth 100000 in
theorem dsig_calls (g : Nat) (r : Rd) (hl : r.rest.length ≤ 4611686018427387904) (w : World) (h : DdAt w g r) :
    Calls Tryz.prog 27 #[.pointer (some ⟨g, 0, none⟩)] w fun e w' => ∃ v, e = .returned v ∧ DdAt w' g r.d3.2 ∧ Turned g w w' ∧
      (r.d3.2.err ≠ 0 → v = .agg sig0) ∧ (r.d3.2.err = 0 → ∃ v1 v2 v3, v = .agg #[.int .i64 ((r.num 4).1 : Int), v1, v2, v3] ∧ DL4 (w.heap.size + 2) w' v1 r.d1.1 ∧ DL4 (w.heap.size + 2) w' v2 r.d2.1 ∧ DL4 (w.heap.size + 2) w' v3 r.d3.1) := by
  have hg := h.lt
  have hm : (r.num 4).1 < 4294967296 := r.num_lt 4
  have r0 := r.head_rest
  have r1 := r.d1_rest
  have r2 := r.d2_rest
  have hi : (Tryz.prog.info? 27).map (·.size) = some sig0.size := by kernel_rfl
  have S0 : SSt g w ((w.alloc (.cells sig0 27)).alloc (.cells sig0 27)) sig0 r := ⟨Turned.of_below (bel2 w _ _) (Nat.le_of_lt hg), (al2 w _ _).1, (al2 w _ _).2, h.below (bel2 w _ _)⟩
  have k0 := hide (dnumber_calls g 4 (by decide) r hl _ S0.rd)
  have dA := hide fun W (hh : DdAt W g r.head) => ddigests_calls g r.head (by omega) 32 (by decide) W hh
  have dB := hide fun W (hh : DdAt W g r.d1.2) => ddigests_calls g r.d1.2 (by omega) 32 (by decide) W hh
  have dC := hide fun W (hh : DdAt W g r.d2.2) => ddigests_calls g r.d2.2 (by omega) 32 (by decide) W hh
  rw [show r.head.digests (32 : Nat) = r.d1 from rfl] at dA
  rw [show r.d1.2.digests (32 : Nat) = r.d2 from rfl] at dB
  rw [show r.d2.2.digests (32 : Nat) = r.d3 from rfl] at dC
  have hhd : Hid ((2147483647 < (r.num 4).1 → r.head = (r.num 4).2.fail 8) ∧ (¬ 2147483647 < (r.num 4).1 → r.head = (r.num 4).2)) := ⟨fun h => by rw [Rd.head, if_pos h], fun h => by rw [Rd.head, if_neg h]⟩
  generalize r.head = rh at *
  generalize r.d1 = x1 at *
  generalize r.d2 = x2 at *
  generalize r.d3 = x3 at *
  generalize (r.num 4).1 = m at *
  generalize (r.num 4).2 = rn at *
  obtain ⟨l1, ra⟩ := x1
  obtain ⟨l2, rb⟩ := x2
  obtain ⟨l3, rc⟩ := x3
  simp only at *
  obtain ⟨X, hX⟩ : ∃ X, (w.alloc (.cells sig0 27)).alloc (.cells sig0 27) = X := ⟨_, rfl⟩
  rw [hX] at S0 k0
  have HX := hide hX
  have HI := hide hi
  clear hX hi h hl r0 r1 r2
  by_cases hbig : 2147483647 < m
  case' pos =>
    have hrh := hide ((unhide hhd).1 hbig)
    have dd : decide (2147483648 ≤ (m : Int)) = true := by simp; omega
    have kf := hide fun W hW => dfail_calls g rn 8 W hW
    clear hhd hbig
    go_enter Tryz.func27, Tryz.ntmps27
    go_wp2_with fail
    rw [show (w.alloc (.cells #[.int .i64 0, .slice none 0 0, .slice none 0 0, .slice none 0 0] 27)).alloc (.cells #[.int .i64 0, .slice none 0 0, .slice none 0 0, .slice none 0 0] 27) = X from unhide HX]
    refine (unhide k0).mono ?_
    rintro e wa ⟨rfl, ha, ta⟩
    go_wp2_with fail
    refine (unhide kf _ ha).mono ?_
    rintro e w1 ⟨rfl, h1, tb⟩
    rw [← unhide hrh] at h1
    have t1 := ta.trans tb
    clear ha ta tb hrh kf
  case' neg =>
    have hrh := hide ((unhide hhd).2 hbig)
    have dd : decide (2147483648 ≤ (m : Int)) = false := by simp; omega
    clear hhd hbig
    go_enter Tryz.func27, Tryz.ntmps27
    go_wp2_with fail
    rw [show (w.alloc (.cells #[.int .i64 0, .slice none 0 0, .slice none 0 0, .slice none 0 0] 27)).alloc (.cells #[.int .i64 0, .slice none 0 0, .slice none 0 0, .slice none 0 0] 27) = X from unhide HX]
    refine (unhide k0).mono ?_
    rintro e w1 ⟨rfl, h1, t1⟩
    rw [← unhide hrh] at h1
    clear hrh
  all_goals
    have S1 := S0.turn hg h1 t1
    have f1 := S1.frozen 0
    have c1 := S1.cell 0 (.int .i64 0) rfl
    have S2 := S1.set hg (row' := #[.int .i64 (m : Int), .slice none 0 0, .slice none 0 0, .slice none 0 0]) 0 (.int .i64 (m : Int)) rfl
    clear S0 S1 h1 t1 k0 HX
    go_wp2_with fail
    refine (unhide dA _ S2.rd).mono ?_
    generalize w1.setCell ⟨w.heap.size + 1, 0, none⟩ (.int .i64 (m : Int)) = W2 at *
    rintro e w3 ⟨v1, rfl, L1, h3, t3⟩
    obtain ⟨p1, n1, e1, rfl, _⟩ := L1.form
    have S3 := S2.turn hg h3 t3
    have M1 := L1.mono (C := w.heap.size + 2) S2.lt
    have f3 := S3.frozen 1
    have c3 := S3.cell 1 (.slice none 0 0) rfl
    have S4 := S3.set hg (row' := #[.int .i64 (m : Int), .slice p1 n1 e1, .slice none 0 0, .slice none 0 0]) 1 (.slice p1 n1 e1) rfl
    have N1 := hide (M1.set (G := w.heap.size + 1) (o := 1) (by omega) (.slice p1 n1 e1))
    clear f1 c1 S2 S3 h3 t3 dA L1 M1
    go_wp2_with fail
    refine (unhide dB _ S4.rd).mono ?_
    generalize w3.setCell ⟨w.heap.size + 1, 1, none⟩ (.slice p1 n1 e1) = W4 at *
    rintro e w5 ⟨v2, rfl, L2, h5, t5⟩
    obtain ⟨p2, n2, e2, rfl, _⟩ := L2.form
    have S5 := S4.turn hg h5 t5
    have M2 := L2.mono (C := w.heap.size + 2) S4.lt
    have M1 := (unhide N1).turn (by omega) t5
    have f5 := S5.frozen 2
    have c5 := S5.cell 2 (.slice none 0 0) rfl
    have S6 := S5.set hg (row' := #[.int .i64 (m : Int), .slice p1 n1 e1, .slice p2 n2 e2, .slice none 0 0]) 2 (.slice p2 n2 e2) rfl
    have N2 := hide (M2.set (G := w.heap.size + 1) (o := 2) (by omega) (.slice p2 n2 e2))
    have O1 := hide (M1.set (G := w.heap.size + 1) (o := 2) (by omega) (.slice p2 n2 e2))
    clear f3 c3 S4 S5 h5 t5 dB L2 M2 M1 N1
    go_wp2_with fail
    refine (unhide dC _ S6.rd).mono ?_
    generalize w5.setCell ⟨w.heap.size + 1, 2, none⟩ (.slice p2 n2 e2) = W6 at *
    rintro e w7 ⟨v3, rfl, L3, h7, t7⟩
    obtain ⟨p3, n3, e3, rfl, _⟩ := L3.form
    have S7 := S6.turn hg h7 t7
    have M3 := L3.mono (C := w.heap.size + 2) S6.lt
    have M2 := (unhide N2).turn (by omega) t7
    have M1 := (unhide O1).turn (by omega) t7
    have f7 := S7.frozen 3
    have c7 := S7.cell 3 (.slice none 0 0) rfl
    have S8 := S7.set hg (row' := #[.int .i64 (m : Int), .slice p1 n1 e1, .slice p2 n2 e2, .slice p3 n3 e3]) 3 (.slice p3 n3 e3) rfl
    have Q3 := hide (M3.set (G := w.heap.size + 1) (o := 3) (by omega) (.slice p3 n3 e3))
    have Q2 := hide (M2.set (G := w.heap.size + 1) (o := 3) (by omega) (.slice p3 n3 e3))
    have Q1 := hide (M1.set (G := w.heap.size + 1) (o := 3) (by omega) (.slice p3 n3 e3))
    have c8 := S8.rd.c1
    have q0 := S8.res
    have q1 := S8.x
    have HS := hide S8
    have hne : w.heap.size ≠ g := by omega
    obtain ⟨W8, hW8⟩ : ∃ W8, w7.setCell ⟨w.heap.size + 1, 3, none⟩ (.slice p3 n3 e3) = W8 := ⟨_, rfl⟩
    rw [hW8] at Q1 Q2 Q3 c8 q0 q1 HS
    have HW8 := hide hW8
    clear f5 c5 S6 S7 S8 h7 t7 dC L3 M3 M2 M1 N2 O1 hW8
    have ir : (Tryz.prog.info? 27).map (·.size) = some (#[Value.int .i64 (m : Int), .slice p1 n1 e1, .slice p2 n2 e2, .slice p3 n3 e3] : Array Value).size := unhide HI
    have hRg : w.heap.size ≠ g := by omega
    have z0 := (sig_cell q0).1 0 _ rfl
    have z1 := (sig_cell q0).1 1 _ rfl
    have z2 := (sig_cell q0).1 2 _ rfl
    have z3 := (sig_cell q0).1 3 _ rfl
    have zf := (sig_cell q0).2
    have y0 := (sig_cell q1).1 0 _ rfl
    have y1 := (sig_cell q1).1 1 _ rfl
    have y2 := (sig_cell q1).1 2 _ rfl
    have y3 := (sig_cell q1).1 3 _ rfl
    have Q0 := hide q0
    have KEEP : Hid (∀ u0 u1 u2 u3 : Value, DdAt ((((W8.setCell ⟨w.heap.size, 0, none⟩ u0).setCell ⟨w.heap.size, 1, none⟩ u1).setCell ⟨w.heap.size, 2, none⟩ u2).setCell ⟨w.heap.size, 3, none⟩ u3) g rc ∧ Turned g w ((((W8.setCell ⟨w.heap.size, 0, none⟩ u0).setCell ⟨w.heap.size, 1, none⟩ u1).setCell ⟨w.heap.size, 2, none⟩ u2).setCell ⟨w.heap.size, 3, none⟩ u3) ∧
        (∀ v l, DL4 (w.heap.size + 2) W8 v l → DL4 (w.heap.size + 2) ((((W8.setCell ⟨w.heap.size, 0, none⟩ u0).setCell ⟨w.heap.size, 1, none⟩ u1).setCell ⟨w.heap.size, 2, none⟩ u2).setCell ⟨w.heap.size, 3, none⟩ u3) v l)) := fun u0 u1 u2 u3 => by
      have S := unhide HS
      refine ⟨(((S.rd.other (Ne.symm hRg) _).other (Ne.symm hRg) _).other (Ne.symm hRg) _).other (Ne.symm hRg) _, (((S.tr.setNew (Nat.le_refl _) (by omega) _).setNew (Nat.le_refl _) (by omega) _).setNew (Nat.le_refl _) (by omega) _).setNew (Nat.le_refl _) (by omega) _, fun v l h => ?_⟩
      exact (((h.set (by omega) _).set (by omega) _).set (by omega) _).set (by omega) _
    clear HS hRg hne q0 q1
    by_cases he : rc.err = 0
    · have ee : (rc.err != 0) = false := by simpa using he
      have Hee := hide he
      clear he
      go_wp2_with (rw [unhide HW8])
      refine bodyPost_ret (results_cell_row rfl _ _ w.heap.size _ _ _ _ rfl (set4 _ _ _ _ _ _ _ _ _ _ _ (unhide Q0)) Tryz.underlying27 rfl ir) rfl ⟨_, rfl, (unhide KEEP _ _ _ _).1, (unhide KEEP _ _ _ _).2.1, fun hh => absurd (unhide Hee) hh, fun _ => ⟨_, _, _, rfl, ?_⟩⟩
      have K := (unhide KEEP (.int .i64 (m : Int)) (.slice p1 n1 e1) (.slice p2 n2 e2) (.slice p3 n3 e3)).2.2
      exact ⟨K _ _ (unhide Q1), K _ _ (unhide Q2), K _ _ (unhide Q3)⟩
    · have ee : (rc.err != 0) = true := by simpa using he
      have Hee := hide he
      clear he
      go_wp2_with (rw [unhide HW8])
      exact bodyPost_ret (results_cell_row rfl _ _ w.heap.size _ _ _ _ rfl (set4 _ _ _ _ _ _ _ _ _ _ _ (unhide Q0)) Tryz.underlying27 rfl (unhide HI)) rfl ⟨_, rfl, (unhide KEEP _ _ _ _).1, (unhide KEEP _ _ _ _).2.1, fun _ => rfl, fun hh => absurd hh (unhide Hee)⟩
end Go.Proofs.YtocibklkpnblgaaGreatDoor

namespace Go.Proofs.YtocibklkpnblgaaGreatDoor
open Go Go.RowKit
set_option linter.unusedSimpArgs false
set_option linter.unusedVariables false

/-- What is read into: the result, the reader, the row. -/
structure DSt (T : TypeId) (Z : Array Value) (w : World) (N : Nat) (wi : World) (row : Array Value) (r : Rd) : Prop where
  below : Below N w wi
  res : wi.heap[N]? = some (.cells Z T (0, 0))
  x : wi.heap[N + 1 + 1]? = some (.cells row T (0, 0))
  rd : DdAt wi (N + 1) r
theorem DSt.turn {T : TypeId} {Z : Array Value} {w : World} {N : Nat} {wi w' : World} {row : Array Value} {r r' : Rd} (h : DSt T Z w N wi row r) (R : DdAt w' (N + 1) r') (H : Turned (N + 1) wi w') : DSt T Z w N w' row r' :=
  ⟨H.under h.below (by omega), H.row (by omega) h.res, H.row (by omega) h.x, R⟩
theorem DSt.set {T : TypeId} {Z : Array Value} {w : World} {N : Nat} {wi : World} {row row' : Array Value} {r : Rd} (h : DSt T Z w N wi row r) (j : Nat) (v : Value) (e : row.setIfInBounds j v = row') : DSt T Z w N (wi.setCell ⟨N + 1 + 1, j, none⟩ v) row' r := by
  refine ⟨h.below.setCell (p := ⟨N + 1 + 1, j, none⟩) (by show N ≤ N + 1 + 1; omega) _, ?_, ?_, h.rd.other (by omega) _⟩
  · rw [heap_setCell_other _ _ _ _ (by show N ≠ N + 1 + 1; omega)]; exact h.res
  · rw [← e]; exact heap_setCell_same _ _ _ _ _ _ h.x
theorem DSt.part {T : TypeId} {Z : Array Value} {w : World} {N : Nat} {wi w' : World} {row row' : Array Value} {r : Rd} (h : DSt T Z w N wi row r) (h1 : w'.heap[N + 1 + 1]? = some (.cells row' T (0, 0))) (h2 : ∀ k, k ≠ N + 1 + 1 → w'.heap[k]? = wi.heap[k]?) (h4 : ∀ B, B ≤ N + 1 + 1 → Below B wi w') : DSt T Z w N w' row' r :=
  ⟨h.below.trans (h4 N (by omega)), (h2 N (by omega)).trans h.res, h1, (h2 (N + 1) (by omega)).trans h.rd⟩
theorem DSt.frozen {T : TypeId} {Z : Array Value} {w : World} {N : Nat} {wi : World} {row : Array Value} {r : Rd} (h : DSt T Z w N wi row r) (j : Nat) : wi.frozen? ⟨N + 1 + 1, j, none⟩ = false := frozen_of_row _ _ _ _ _ h.x
/-- A signature that was read, as cells. -/
theorem dsig_cells {B : Nat} {w : World} {r : Rd} {v : Value} (h0 : r.d3.2.err ≠ 0 → v = .agg sig0) (h1 : r.d3.2.err = 0 → ∃ v1 v2 v3, v = .agg #[.int .i64 ((r.num 4).1 : Int), v1, v2, v3] ∧ DL4 B w v1 r.d1.1 ∧ DL4 B w v2 r.d2.1 ∧ DL4 B w v3 r.d3.1) :
    ∃ cs : Array Value, v = .agg cs ∧ Hid (cs.size = 4) ∧ cs.all (·.oneCell') = true ∧ Hid (r.d3.2.err = 0 → ∃ v1 v2 v3, cs = #[.int .i64 ((r.num 4).1 : Int), v1, v2, v3] ∧ DL4 B w v1 r.d1.1 ∧ DL4 B w v2 r.d2.1 ∧ DL4 B w v3 r.d3.1) := by
  by_cases h : r.d3.2.err = 0
  · obtain ⟨v1, v2, v3, rfl, e1, e2, e3⟩ := h1 h
    refine ⟨_, rfl, rfl, ?_, fun _ => ⟨v1, v2, v3, rfl, e1, e2, e3⟩⟩
    simp [e1.one, e2.one, e3.one, show (Value.int .i64 ((r.num 4).1 : Int)).oneCell' = true from rfl]
  · exact ⟨_, h0 h, rfl, by simp [sig0, Value.oneCell'], fun h' => absurd h' h⟩
set_option maxHeartbeats 4000000 in
set_option maxRecDepth 100000 in
theorem duread_calls (l : List UInt8) (hl : l.length ≤ 4611686018427387904) (w : World) :
    Calls Tryz.prog 7 #[.string (str l)] w fun e w' => ∃ row : Array Value, e = .returned (.tuple #[.agg row, .int .i64 ((⟨l, 0⟩ : Rd).u3.2.d3.2.end')]) ∧ Below w.heap.size w w' ∧ Hid ((⟨l, 0⟩ : Rd).u3.2.d3.2.end' ≠ 0 → row = updO) ∧ Hid ((⟨l, 0⟩ : Rd).u3.2.d3.2.end' = 0 → ∃ v1 v2 v3, row = updc (⟨l, 0⟩ : Rd).u1.1 (pad32 (⟨l, 0⟩ : Rd).u2.1) (pad32 (⟨l, 0⟩ : Rd).u3.1) #[.int .i64 (((⟨l, 0⟩ : Rd).u3.2.num 4).1 : Int), v1, v2, v3] ∧ DL4 w.heap.size w' v1 (⟨l, 0⟩ : Rd).u3.2.d1.1 ∧ DL4 w.heap.size w' v2 (⟨l, 0⟩ : Rd).u3.2.d2.1 ∧ DL4 w.heap.size w' v3 (⟨l, 0⟩ : Rd).u3.2.d3.1) := by
  obtain ⟨r0, h0⟩ : ∃ r, (⟨l, 0⟩ : Rd) = r := ⟨_, rfl⟩
  have hl0 : r0.rest.length ≤ 4611686018427387904 := by rw [← h0]; exact hl
  have ek : (#[.string (str l), .int .i64 0] : Array Value) = r0.cells := by rw [← h0]; rfl
  rw [h0]
  have HEK := hide ek
  clear ek
  have m1 : r0.u1.2.rest.length ≤ r0.rest.length := Rd.take_rest _ _
  have m2 : r0.u2.2.rest.length ≤ r0.u1.2.rest.length := Rd.take_rest _ _
  have m3 : r0.u3.2.rest.length ≤ r0.u2.2.rest.length := Rd.take_rest _ _
  have k1 := hide fun W (h : DdAt W (w.heap.size + 1) r0) => dnumber_calls _ 4 (by decide) r0 hl0 W h
  have k2 := hide fun W (h : DdAt W (w.heap.size + 1) r0.u1.2) => ddigest_calls _ r0.u1.2 (by omega) W h
  have k3 := hide fun W (h : DdAt W (w.heap.size + 1) r0.u2.2) => ddigest_calls _ r0.u2.2 (by omega) W h
  have k4 := hide fun W (h : DdAt W (w.heap.size + 1) r0.u3.2) => dsig_calls _ r0.u3.2 (by omega) W h
  have k5 := hide fun W (h : DdAt W (w.heap.size + 1) r0.u3.2.d3.2) => dend_calls _ r0.u3.2.d3.2 W h
  have sg := fun (B : Nat) (w : World) (v : Value) h0 h1 => @dsig_cells B w r0.u3.2 v h0 h1
  have e1 : r0.num 4 = r0.u1 := rfl
  have e2 : r0.u1.2.take 32 = r0.u2 := rfl
  have e3 : r0.u2.2.take 32 = r0.u3 := rfl
  rw [e1] at k1
  rw [e2] at k2
  rw [e3] at k3
  have p2 := r0.u2_len
  have lt1 : r0.u1.1 < 4294967296 := Rd.num_lt _ 4
  have p3 := r0.u3_len
  have herr : r0.u3.2.d3.2.end' = 0 → r0.u3.2.d3.2.err = 0 := fun h => (Rd.end_ok _ h).1
  obtain ⟨E, hE0⟩ : ∃ E, r0.u3.2.d3.2.end' = E := ⟨_, rfl⟩
  rw [hE0] at k5 herr ⊢
  have SG := hide sg
  have HE := hide herr
  clear m1 m2 m3 e1 e2 e3 hE0 h0 hl0 hl sg herr
  generalize r0.u3.2.d3 = x4 at *
  generalize r0.u3.2.d2 = x5 at *
  generalize r0.u3.2.d1 = x6 at *
  generalize (r0.u3.2.num 4).1 = x7 at *
  generalize r0.u3 = x3 at *
  generalize r0.u2 = x2 at *
  generalize r0.u1 = x1 at *
  obtain ⟨a1, r1⟩ := x1
  obtain ⟨a2, r2⟩ := x2
  obtain ⟨a3, r3⟩ := x3
  obtain ⟨a4, r4⟩ := x4
  simp only at *
  generalize pad32 a2 = A2 at *
  generalize pad32 a3 = A3 at *
  have L0 : DSt 29 updO w w.heap.size (((w.alloc (.cells updO 29)).alloc (.cells r0.cells 63)).alloc (.cells updO 29)) updO r0 :=
    ⟨bel3 w _ _ _, (al3 w _ _ _).1, (al3 w _ _ _).2.2, (al3 w _ _ _).2.1⟩
  have HL0 := hide L0
  have ha1 : a1 < 4294967296 := by first | assumption | omega
  have hw1 : IntKind.u32.wrap (a1 : Int) = (a1 : Int) := by rw [IntKind.wrap_u32']; omega
  clear ha1
  have Pa := hide p2
  have hi2 := digInfo' A2 p2
  have Pb := hide p3
  have hi3 := digInfo' A3 p3
  clear L0 p2 p3
  go_enter Tryz.func7, Tryz.ntmps7
  go_wp2_with fail
  rw [unhide HEK]
  refine (unhide k1 _ (unhide HL0).rd).mono ?_
  rintro e w1 ⟨rfl, R, H⟩
  have M := (unhide HL0).turn R H
  have f := M.frozen 0
  have c : w1.cell? ⟨w.heap.size + 1 + 1, 0, none⟩ = some (.int .u32 0) := by rw [cell_of_row _ _ _ _ _ _ M.x]; rfl
  have L1 := M.set (row' := updc a1 z32 z32 sig0) 0 (.int .u32 (a1 : Int)) (updc_set 0 a1 z32 z32 sig0)
  clear HL0 R H M k1 HEK
  go_wp2_with fail
  refine (unhide k2 _ L1.rd).mono ?_
  rintro e w2 ⟨rfl, R, H⟩
  have M := L1.turn R H
  clear L1 R H k2 f c
  have MX : w2.heap[w.heap.size + 1 + 1]? = some (.cells (#[Value.int .u32 (a1 : Int)] ++ bc z32 ++ (bc z32 ++ sig0)) 29 (0, 0)) := by
    rw [M.x]; unfold updc; rw [Array.append_assoc (xs := #[Value.int .u32 (a1 : Int)] ++ bc z32)]
  go_wp2_with (refine wpList_store_part rfl 24 (.tmp 16) (.tmp 15) rfl (w.heap.size + 1 + 1) 1 #[Value.int .u32 (a1 : Int)] (bc z32) (bc z32 ++ sig0) (bc A2) _ rfl rfl rfl (by rw [bc_size, bc_size, unhide Pa]; rfl) MX hi2 (bc_oneCell _) ?_; intro w3 g1 g2 g3 g4; rw [← Array.append_assoc] at g1; have L2 := M.part (row' := updc a1 A2 z32 sig0) g1 g2 g4; clear M MX g1 g2 g3 g4)
  refine (unhide k3 _ L2.rd).mono ?_
  rintro e w4 ⟨rfl, R, H⟩
  have M := L2.turn R H
  clear L2 R H k3
  go_wp2_with (refine wpList_store_part rfl 24 (.tmp 19) (.tmp 18) rfl (w.heap.size + 1 + 1) 33 (#[Value.int .u32 (a1 : Int)] ++ bc A2) (bc z32) sig0 (bc A3) _ rfl rfl (by simp [bc_size, unhide Pa]) (by rw [bc_size, bc_size, unhide Pb]; rfl) M.x hi3 (bc_oneCell _) ?_; intro w5 g1 g2 g3 g4; have L3 := M.part (row' := updc a1 A2 A3 sig0) g1 g2 g4; clear M g1 g2 g3 g4)
  refine (unhide k4 _ L3.rd).mono ?_
  rintro e w6 ⟨v, rfl, R, H, s0, s1⟩
  obtain ⟨cs, rfl, csz, cs1, csd⟩ := unhide SG _ _ _ s0 s1
  have zz := L3.rd.lt
  have M := L3.turn R H
  have his := sig_info' cs (unhide csz)
  clear L3 R H k4 s0 s1 SG
  have HD : Hid (∀ W C, (r4.err = 0 → ∃ v1 v2 v3, C = #[.int .i64 (x7 : Int), v1, v2, v3] ∧ DL4 (w5.heap.size + 2) w6 v1 x6.1 ∧ DL4 (w5.heap.size + 2) w6 v2 x5.1 ∧ DL4 (w5.heap.size + 2) w6 v3 a4) → (∀ k, k ≠ w.heap.size + 1 + 1 → W.heap[k]? = w6.heap[k]?) → W.heap.size = w6.heap.size → Hid (r4.err = 0 → ∃ v1 v2 v3, C = #[.int .i64 (x7 : Int), v1, v2, v3] ∧ DL4 (w.heap.size + 3) W v1 x6.1 ∧ DL4 (w.heap.size + 3) W v2 x5.1 ∧ DL4 (w.heap.size + 3) W v3 a4)) := fun W C hc g2 g3 he => by
    obtain ⟨v1, v2, v3, e, d1, d2, d3⟩ := hc he
    exact ⟨v1, v2, v3, e, d1.keep (fun k hk _ => g2 k (by omega)) (by omega), d2.keep (fun k hk _ => g2 k (by omega)) (by omega), d3.keep (fun k hk _ => g2 k (by omega)) (by omega)⟩
  have MX : w6.heap[w.heap.size + 1 + 1]? = some (.cells ((#[Value.int .u32 (a1 : Int)] ++ bc A2 ++ bc A3) ++ sig0 ++ #[]) 29 (0, 0)) := by
    rw [M.x, Array.append_empty]; rfl
  go_wp2_with (refine wpList_store_part rfl 27 (.tmp 22) (.tmp 21) rfl (w.heap.size + 1 + 1) 65 (#[Value.int .u32 (a1 : Int)] ++ bc A2 ++ bc A3) sig0 #[] cs _ rfl rfl (by simp [bc_size, unhide Pa, unhide Pb]) (by rw [unhide csz]; rfl) MX his cs1 ?_; intro w7 g1 g2 g3 g4; rw [Array.append_empty] at g1; have L4 := M.part (row' := updc a1 A2 A3 cs) g1 g2 g4; have csd' := unhide HD w7 cs (unhide csd) g2 g3; clear M MX g1 g2 g3 g4 csd)
  refine (unhide k5 _ L4.rd).mono ?_
  rintro e w8 ⟨rfl, h8⟩
  have q0 := L4.res
  have q1 := L4.x
  have hb := L4.below
  rw [h8]
  clear k5 L4 h8
  have hsz := updc_size a1 A2 A3 (unhide Pa) (unhide Pb) cs (unhide csz)
  have hir := upd_info _ hsz
  have hor := updc_one a1 A2 A3 cs cs1
  have hiz := upd_info updO rfl
  have hoz : updO.all (·.oneCell') = true := updc_one _ _ _ _ (by simp [sig0, Value.oneCell'])
  have hzz : Hid (updO.size = (updc a1 A2 A3 cs).size) := by rw [hsz]; rfl
  obtain ⟨ROW, hROW⟩ : ∃ R, updc a1 A2 A3 cs = R := ⟨_, rfl⟩
  rw [hROW] at q1 hir hor hzz
  have HR := hide hROW
  clear hsz hROW
  by_cases hE : E = 0
  · have hE' : (E != 0) = false := by simp [hE]
    have herr := unhide HE hE
    have hfin := unhide csd' herr
    have HF := hide hfin
    have HEE := hide hE
    clear hE herr hfin csd' HE
    go_wp2_with (first
      | (refine wpList_load_row rfl 29 (.tmp 5) rfl (w.heap.size + 1 + 1) rfl 29 ROW (0, 0) _ q1 Tryz.underlying29 rfl hir ?_)
      | (refine wpList_store_row rfl 29 (.tmp 2) (.tmp 29) rfl w.heap.size ROW rfl rfl 29 _ q0 hir (unhide hzz) hor ?_))
    refine bodyPost_ret (results_row_tmp rfl _ _ w.heap.size _ _ _ _ rfl (setRow_heap _ _ _ _ _ _ q0) Tryz.underlying29 rfl hir) rfl ⟨ROW, by rw [unhide HEE]; rfl, below_setRow hb (Nat.le_refl _) _, fun h => absurd (unhide HEE) h, fun _ => ?_⟩
    obtain ⟨v1, v2, v3, e, d1, d2, d3⟩ := unhide HF
    exact ⟨v1, v2, v3, by rw [← unhide HR, e], d1.keep (fun k hk _ => setRow_other _ _ _ _ (by omega)) (by omega), d2.keep (fun k hk _ => setRow_other _ _ _ _ (by omega)) (by omega), d3.keep (fun k hk _ => setRow_other _ _ _ _ (by omega)) (by omega)⟩
  · have hE' : (E != 0) = true := by simp [hE]
    have HEE := hide hE
    clear hE csd' HE
    go_wp2_with (refine wpList_store_row rfl 29 (.tmp 2) (.tmp 27) rfl w.heap.size updO rfl rfl 29 _ q0 hiz rfl hoz ?_)
    exact bodyPost_ret (results_row_tmp rfl _ _ w.heap.size _ _ _ _ rfl (setRow_heap _ _ _ _ _ _ q0) Tryz.underlying29 rfl hiz) rfl ⟨updO, rfl, below_setRow hb (Nat.le_refl _) _, fun _ => rfl, fun h => absurd h (unhide HEE)⟩
set_option maxHeartbeats 4000000 in
set_option maxRecDepth 100000 in
theorem dsread_calls (l : List UInt8) (hl : l.length ≤ 4611686018427387904) (w : World) :
    Calls Tryz.prog 9 #[.string (str l)] w fun e w' => ∃ row : Array Value, e = .returned (.tuple #[.agg row, .int .i64 (pStopE (⟨l, 0⟩ : Rd))]) ∧ Below w.heap.size w w' ∧ Hid (pStopE (⟨l, 0⟩ : Rd) ≠ 0 → row = stopO) ∧ Hid (pStopE (⟨l, 0⟩ : Rd) = 0 → ∃ v1 v2 v3, row = stopc (⟨l, 0⟩ : Rd).u1.1 (pad32 (⟨l, 0⟩ : Rd).u2.1) ((⟨l, 0⟩ : Rd).s3.1 : Int) #[.int .i64 (((⟨l, 0⟩ : Rd).s3.2.num 4).1 : Int), v1, v2, v3] ∧ DL4 w.heap.size w' v1 (⟨l, 0⟩ : Rd).s3.2.d1.1 ∧ DL4 w.heap.size w' v2 (⟨l, 0⟩ : Rd).s3.2.d2.1 ∧ DL4 w.heap.size w' v3 (⟨l, 0⟩ : Rd).s3.2.d3.1) := by
  obtain ⟨r0, h0⟩ : ∃ r, (⟨l, 0⟩ : Rd) = r := ⟨_, rfl⟩
  have hl0 : r0.rest.length ≤ 4611686018427387904 := by rw [← h0]; exact hl
  have ek : (#[.string (str l), .int .i64 0] : Array Value) = r0.cells := by rw [← h0]; rfl
  rw [h0]
  have HEK := hide ek
  clear ek
  have m1 : r0.u1.2.rest.length ≤ r0.rest.length := Rd.take_rest _ _
  have m2 : r0.u2.2.rest.length ≤ r0.u1.2.rest.length := Rd.take_rest _ _
  have m3 : r0.s3.2.rest.length ≤ r0.u2.2.rest.length := Rd.take_rest _ _
  have k1 := hide fun W (h : DdAt W (w.heap.size + 1) r0) => dnumber_calls _ 4 (by decide) r0 hl0 W h
  have k2 := hide fun W (h : DdAt W (w.heap.size + 1) r0.u1.2) => ddigest_calls _ r0.u1.2 (by omega) W h
  have k3 := hide fun W (h : DdAt W (w.heap.size + 1) r0.u2.2) => dnumber_calls _ 4 (by decide) r0.u2.2 (by omega) W h
  have k4 := hide fun W (h : DdAt W (w.heap.size + 1) r0.s3.2) => dsig_calls _ r0.s3.2 (by omega) W h
  have k5 := hide fun W (h : DdAt W (w.heap.size + 1) r0.s3.2.d3.2) => dend_calls _ r0.s3.2.d3.2 W h
  have sg := fun (B : Nat) (w : World) (v : Value) h0 h1 => @dsig_cells B w r0.s3.2 v h0 h1
  have e1 : r0.num 4 = r0.u1 := rfl
  have e2 : r0.u1.2.take 32 = r0.u2 := rfl
  have e3 : r0.u2.2.num 4 = r0.s3 := rfl
  rw [e1] at k1
  rw [e2] at k2
  rw [e3] at k3
  have p2 := r0.u2_len
  have lt1 : r0.u1.1 < 4294967296 := Rd.num_lt _ 4
  have w3 : r0.s3.1 < 4294967296 := Rd.num_lt _ 4
  have herr : r0.s3.2.d3.2.end' = 0 → r0.s3.2.d3.2.err = 0 := fun h => (Rd.end_ok _ h).1
  obtain ⟨E, hE0⟩ : ∃ E, r0.s3.2.d3.2.end' = E := ⟨_, rfl⟩
  rw [hE0] at k5 herr 
  obtain ⟨EE, hEE⟩ : ∃ EE, pStopE r0 = EE := ⟨_, rfl⟩
  rw [hEE]
  unfold pStopE at hEE
  rw [hE0] at hEE
  have HEE0 := hide hEE
  clear hEE
  have SG := hide sg
  have HE := hide herr
  clear m1 m2 m3 e1 e2 e3 hE0 h0 hl0 hl sg herr
  generalize r0.s3.2.d3 = x4 at *
  generalize r0.s3.2.d2 = x5 at *
  generalize r0.s3.2.d1 = x6 at *
  generalize (r0.s3.2.num 4).1 = x7 at *
  generalize r0.s3 = x3 at *
  generalize r0.u2 = x2 at *
  generalize r0.u1 = x1 at *
  obtain ⟨a1, r1⟩ := x1
  obtain ⟨a2, r2⟩ := x2
  obtain ⟨a3, r3⟩ := x3
  obtain ⟨a4, r4⟩ := x4
  simp only at *
  generalize pad32 a2 = A2 at *
  have L0 : DSt 31 stopO w w.heap.size (((w.alloc (.cells stopO 31)).alloc (.cells r0.cells 63)).alloc (.cells stopO 31)) stopO r0 :=
    ⟨bel3 w _ _ _, (al3 w _ _ _).1, (al3 w _ _ _).2.2, (al3 w _ _ _).2.1⟩
  have HL0 := hide L0
  have hw1 : IntKind.u32.wrap (a1 : Int) = (a1 : Int) := by rw [IntKind.wrap_u32']; omega
  have hw3 : IntKind.i64.wrap (a3 : Int) = (a3 : Int) := wi64 _ (by omega) (by omega)
  have Pa := hide p2
  have hi2 := digInfo' A2 p2
  clear L0 p2 
  go_enter Tryz.func9, Tryz.ntmps9
  go_wp2_with fail
  rw [unhide HEK]
  refine (unhide k1 _ (unhide HL0).rd).mono ?_
  rintro e w1 ⟨rfl, R, H⟩
  have M := (unhide HL0).turn R H
  have f := M.frozen 0
  have c : w1.cell? ⟨w.heap.size + 1 + 1, 0, none⟩ = some (.int .u32 0) := by rw [cell_of_row _ _ _ _ _ _ M.x]; rfl
  have L1 := M.set (row' := stopc a1 z32 0 sig0) 0 (.int .u32 (a1 : Int)) (stopc_set 0 a1 z32 0 sig0)
  clear HL0 R H M k1 HEK
  go_wp2_with fail
  refine (unhide k2 _ L1.rd).mono ?_
  rintro e w2 ⟨rfl, R, H⟩
  have M := L1.turn R H
  clear L1 R H k2 f c
  have MX : w2.heap[w.heap.size + 1 + 1]? = some (.cells (#[Value.int .u32 (a1 : Int)] ++ bc z32 ++ (#[Value.int .i64 0] ++ sig0)) 31 (0, 0)) := by
    rw [M.x]; unfold stopc; rw [Array.append_assoc (xs := #[Value.int .u32 (a1 : Int)] ++ bc z32)]
  go_wp2_with (refine wpList_store_part rfl 24 (.tmp 16) (.tmp 15) rfl (w.heap.size + 1 + 1) 1 #[Value.int .u32 (a1 : Int)] (bc z32) (#[Value.int .i64 0] ++ sig0) (bc A2) _ rfl rfl rfl (by rw [bc_size, bc_size, unhide Pa]; rfl) MX hi2 (bc_oneCell _) ?_; intro w3 g1 g2 g3 g4; rw [← Array.append_assoc] at g1; have L2 := M.part (row' := stopc a1 A2 0 sig0) g1 g2 g4; clear M MX g1 g2 g3 g4)
  refine (unhide k3 _ L2.rd).mono ?_
  rintro e w5 ⟨rfl, R, H⟩
  have M := L2.turn R H
  have f := M.frozen 33
  have c : w5.cell? ⟨w.heap.size + 1 + 1, 33, none⟩ = some (.int .i64 0) := by rw [cell_of_row _ _ _ _ _ _ M.x]; exact stopc_who a1 A2 (unhide Pa) 0 sig0
  have L3 := M.set (row' := stopc a1 A2 (a3 : Int) sig0) 33 (.int .i64 (a3 : Int)) (stopc_set_who a1 A2 (unhide Pa) 0 a3 sig0)
  clear L2 R H k3 M
  go_wp2_with fail
  refine (unhide k4 _ L3.rd).mono ?_
  generalize w5.setCell ⟨w.heap.size + 1 + 1, 33, none⟩ (.int .i64 (a3 : Int)) = w5' at *
  rintro e w6 ⟨v, rfl, R, H, s0, s1⟩
  obtain ⟨cs, rfl, csz, cs1, csd⟩ := unhide SG _ _ _ s0 s1
  have zz := L3.rd.lt
  have M := L3.turn R H
  have his := sig_info' cs (unhide csz)
  clear L3 R H k4 s0 s1 SG f c
  have HD : Hid (∀ W C, (r4.err = 0 → ∃ v1 v2 v3, C = #[.int .i64 (x7 : Int), v1, v2, v3] ∧ DL4 (w5'.heap.size + 2) w6 v1 x6.1 ∧ DL4 (w5'.heap.size + 2) w6 v2 x5.1 ∧ DL4 (w5'.heap.size + 2) w6 v3 a4) → (∀ k, k ≠ w.heap.size + 1 + 1 → W.heap[k]? = w6.heap[k]?) → W.heap.size = w6.heap.size → Hid (r4.err = 0 → ∃ v1 v2 v3, C = #[.int .i64 (x7 : Int), v1, v2, v3] ∧ DL4 (w.heap.size + 3) W v1 x6.1 ∧ DL4 (w.heap.size + 3) W v2 x5.1 ∧ DL4 (w.heap.size + 3) W v3 a4)) := fun W C hc g2 g3 he => by
    obtain ⟨v1, v2, v3, e, d1, d2, d3⟩ := hc he
    exact ⟨v1, v2, v3, e, d1.keep (fun k hk _ => g2 k (by omega)) (by omega), d2.keep (fun k hk _ => g2 k (by omega)) (by omega), d3.keep (fun k hk _ => g2 k (by omega)) (by omega)⟩
  have MX : w6.heap[w.heap.size + 1 + 1]? = some (.cells ((#[Value.int .u32 (a1 : Int)] ++ bc A2 ++ #[Value.int .i64 (a3 : Int)]) ++ sig0 ++ #[]) 31 (0, 0)) := by
    rw [M.x, Array.append_empty]; rfl
  go_wp2_with (refine wpList_store_part rfl 27 (.tmp 23) (.tmp 22) rfl (w.heap.size + 1 + 1) 34 (#[Value.int .u32 (a1 : Int)] ++ bc A2 ++ #[Value.int .i64 (a3 : Int)]) sig0 #[] cs _ rfl rfl (by simp [bc_size, unhide Pa]) (by rw [unhide csz]; rfl) MX his cs1 ?_; intro w7 g1 g2 g3 g4; rw [Array.append_empty] at g1; have L4 := M.part (row' := stopc a1 A2 (a3 : Int) cs) g1 g2 g4; have csd' := unhide HD w7 cs (unhide csd) g2 g3; clear M MX g1 g2 g3 g4 csd)
  refine (unhide k5 _ L4.rd).mono ?_
  rintro e w8 ⟨rfl, h8⟩
  rw [h8]
  clear k5 h8
  have hiz := stop_info stopO rfl
  have hoz : stopO.all (·.oneCell') = true := stopc_one _ _ _ _ (by simp [sig0, Value.oneCell'])
  have cw : w7.cell? ⟨w.heap.size + 1 + 1, 33, none⟩ = some (.int .i64 (a3 : Int)) := by rw [cell_of_row _ _ _ _ _ _ L4.x]; exact stopc_who a1 A2 (unhide Pa) (a3 : Int) cs
  by_cases hE : E = 0
  · have hE' : (E != 0) = false := by simp [hE]
    have hc' : Hid (¬ E ≠ 0) := fun h => h hE
    have herr := unhide HE hE
    have HF := hide (unhide csd' herr)
    clear hE herr csd' HE
    by_cases hW : 2147483647 < a3
    · have hd : decide ((2147483647 : Int) < (a3 : Int)) = true := by simp; omega
      have HW := hide hW
      have q0 := L4.res
      have hb := L4.below
      clear hW L4
      go_wp2_with (refine wpList_store_row rfl 31 (.tmp 2) (.tmp 33) rfl w.heap.size stopO rfl rfl 31 _ q0 hiz rfl hoz ?_)
      exact bodyPost_ret (results_row_tmp rfl _ _ w.heap.size _ _ _ _ rfl (setRow_heap _ _ _ _ _ _ q0) Tryz.underlying31 rfl hiz) rfl ⟨stopO, by rw [← unhide HEE0, if_neg (unhide hc'), if_pos (unhide HW)]; rfl, below_setRow hb (Nat.le_refl _) _, fun _ => rfl, fun h => by rw [← unhide HEE0, if_neg (unhide hc'), if_pos (unhide HW)] at h; cases h⟩
    · have hd : decide ((2147483647 : Int) < (a3 : Int)) = false := by simp; omega
      have HW := hide hW
      have q0 := L4.res
      have q1 := L4.x
      have hb := L4.below
      have hsz := stopc_size a1 A2 (unhide Pa) a3 cs (unhide csz)
      have hir := stop_info _ hsz
      have hor := stopc_one a1 A2 a3 cs cs1
      have hzz : Hid (stopO.size = (stopc a1 A2 (a3 : Int) cs).size) := by rw [hsz]; rfl
      obtain ⟨ROW, hROW⟩ : ∃ R, stopc a1 A2 (a3 : Int) cs = R := ⟨_, rfl⟩
      rw [hROW] at q1 hir hor hzz
      have HR := hide hROW
      clear hsz hROW L4 hW
      go_wp2_with (first
        | (refine wpList_load_row rfl 31 (.tmp 5) rfl (w.heap.size + 1 + 1) rfl 31 ROW (0, 0) _ q1 Tryz.underlying31 rfl hir ?_)
        | (refine wpList_store_row rfl 31 (.tmp 2) (.tmp 34) rfl w.heap.size ROW rfl rfl 31 _ q0 hir (unhide hzz) hor ?_))
      refine bodyPost_ret (results_row_tmp rfl _ _ w.heap.size _ _ _ _ rfl (setRow_heap _ _ _ _ _ _ q0) Tryz.underlying31 rfl hir) rfl ⟨ROW, by rw [← unhide HEE0, if_neg (unhide hc'), if_neg (unhide HW)]; rfl, below_setRow hb (Nat.le_refl _) _, fun h => absurd (by rw [← unhide HEE0, if_neg (unhide hc'), if_neg (unhide HW)]) h, fun _ => ?_⟩
      obtain ⟨v1, v2, v3, e, d1, d2, d3⟩ := unhide HF
      exact ⟨v1, v2, v3, by rw [← unhide HR, e], d1.keep (fun k hk _ => setRow_other _ _ _ _ (by omega)) (by omega), d2.keep (fun k hk _ => setRow_other _ _ _ _ (by omega)) (by omega), d3.keep (fun k hk _ => setRow_other _ _ _ _ (by omega)) (by omega)⟩
  · have hE' : (E != 0) = true := by simp [hE]
    have HEE := hide hE
    have q0 := L4.res
    have hb := L4.below
    clear hE csd' HE L4
    go_wp2_with (refine wpList_store_row rfl 31 (.tmp 2) (.tmp 28) rfl w.heap.size stopO rfl rfl 31 _ q0 hiz rfl hoz ?_)
    exact bodyPost_ret (results_row_tmp rfl _ _ w.heap.size _ _ _ _ rfl (setRow_heap _ _ _ _ _ _ q0) Tryz.underlying31 rfl hiz) rfl ⟨stopO, by rw [← unhide HEE0, if_pos (unhide HEE)]; rfl, below_setRow hb (Nat.le_refl _) _, fun _ => rfl, fun h => by rw [← unhide HEE0, if_pos (unhide HEE)] at h; exact absurd h (unhide HEE)⟩
end Go.Proofs.YtocibklkpnblgaaGreatDoor
