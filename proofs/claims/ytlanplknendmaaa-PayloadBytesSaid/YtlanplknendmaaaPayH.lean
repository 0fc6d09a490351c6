/-
  WHAT THE LAYER's Of AND package payload's Transfer RETURN; A PAYLOAD's FIELDS COMPARED.
-/
import Derived.Test.YtlanplknendmaaaPayG
import Derived.Test.YtlanplknendmaaaStoreV
import Derived.Test.YtlanplknendmaaaQuietRow
import Derived.Test.YtlanplknendmaaaQuietMid
namespace Go.Proofs.Ytlanplknendmaaa
open Go.RowKit
set_option linter.unusedSimpArgs false
set_option linter.unusedVariables false

/-- A payload's fields side by side. -/
structure Fl where
  (k o : Nat) (a b : List UInt8) (n : Nat)
def Fl.cells (x : Fl) : Array Value := #[.int .i64 (x.k : Int), .int .u32 (x.o : Int), .string (str x.a), .string (str x.b), .int .u64 (x.n : Int)]
def Fl.zero : Fl := ⟨0, 0, [], [], 0⟩
def Pl.fl : Pl → Fl
  | .tr o a b n => ⟨1, o, a, b, n⟩
  | .sa a b => ⟨2, 0, a, b, 0⟩
  | .de o a n => ⟨3, o, a, [], n⟩
  | _ => Fl.zero
theorem fl_info (x : Fl) : (Try.prog.info? 29).map (·.size) = some x.cells.size := (show (Try.prog.info? 29).map (·.size) = some 5 by kernel_rfl)
theorem fl_one (x : Fl) : x.cells.all (·.oneCell') = true := by simp [Fl.cells, Value.oneCell']
def pFlEq (x y : Fl) : Bool := if x.k = y.k then if x.o = y.o then if x.a = y.a then if x.b = y.b then decide (x.n = y.n) else false else false else false else false
theorem pFlEq_iff (x y : Fl) : pFlEq x y = true ↔ x = y := by
  obtain ⟨a1, a2, a3, a4, a5⟩ := x
  obtain ⟨b1, b2, b3, b4, b5⟩ := y
  simp [pFlEq]
theorem pPSame_fl (p q : Pl) : pPSame p q = if 0 < p.fl.k then pFlEq p.fl q.fl else false := by
  rw [Bool.eq_iff_iff]
  cases p <;> cases q <;> simp [pPSame, Pl.fl, Fl.zero, pFlEq]
  · rename_i o a b n o' a' b' n'
    by_cases h1 : o = o' <;> by_cases h2 : a = a' <;> by_cases h3 : b = b' <;> simp [h1, h2, h3]
    exact decide_eq_true_iff.symm
  · rename_i o a n o' a' n'
    intro _ _
    exact decide_eq_true_iff.symm
theorem pal4 (w : World) (A B C D : Obj) : ((((w.alloc A).alloc B).alloc C).alloc D).heap[w.heap.size]? = some A :=
  (Below.heap_alloc _ D _ (by simp; omega)).trans (al3 w A B C).1
theorem pbel4 (w : World) (A B C D : Obj) : Below w.heap.size w ((((w.alloc A).alloc B).alloc C).alloc D) := (bel3 w A B C).alloc (by simp; omega) _
set_option maxRecDepth 100000 in
theorem fl_eql (x y : Fl) (w : World) : (binOp .eql 29 (.agg x.cells) (.agg y.cells)).run Try.prog w = .ok (.bool (pFlEq x y)) w := by
  obtain ⟨a1, a2, a3, a4, a5⟩ := x
  obtain ⟨b1, b2, b3, b4, b5⟩ := y
  unfold pFlEq Fl.cells
  simp only
  have s := toList_eq
  by_cases h1 : a1 = b1
  · subst h1
    by_cases h2 : a2 = b2
    · subst h2
      by_cases h5 : a5 = b5
      · subst h5
        go_simp
        by_cases h3 : a3 = b3 <;> by_cases h4 : a4 = b4 <;> simp [h3, h4]
      · have e5 : ((a5 : Int) == (b5 : Int)) = false := by simp; omega
        go_simp
    · have e2 : ((a2 : Int) == (b2 : Int)) = false := by simp; omega
      go_simp
  · have e1 : ((a1 : Int) == (b1 : Int)) = false := by simp; omega
    go_simp
set_option maxHeartbeats 2000000 in
set_option maxRecDepth 100000 in
theorem pof_calls (p : Pl) (w : World) :
    Calls Try.prog 9 #[p.val] w fun e w' => e = .returned (.agg p.fl.cells) ∧ Below w.heap.size w w' := by
  have h1 := as_tr p
  have h2 := as_sa p
  have h3 := as_de p
  have hi := fl_info p.fl
  have ho := fl_one p.fl
  have hsz : Hid (Fl.zero.cells.size = p.fl.cells.size) := rfl
  generalize hV : p.val = V at *
  cases p with
  | no  =>
    simp only [Pl.isTr, Pl.isSa, Pl.isDe, Pl.trC, Pl.saC, Pl.deC] at h1 h2 h3
    have q0 := (pal4 w (.cells Fl.zero.cells 29) (.cells (trCells 0 [] [] 0) 44) (.cells (saCells [] []) 51) (.cells (deCells 0 [] 0) 53))
    have hb0 := (pbel4 w (.cells Fl.zero.cells 29) (.cells (trCells 0 [] [] 0) 44) (.cells (saCells [] []) 51) (.cells (deCells 0 [] 0) 53))
    clear hV
    unfold trCells at *
    unfold saCells at *
    unfold deCells at *
    go_enter Try.func9, Try.ntmps9
    go_wp2_with (refine wpList_store_row rfl 29 (.tmp 2) (.tmp 48) rfl w.heap.size (Pl.fl .no).cells rfl rfl 29 _ q0 hi (unhide hsz) ho ?_)
    exact bodyPost_ret (results_cell_row rfl _ _ w.heap.size _ _ _ _ rfl (setRow_heap _ _ _ _ _ _ q0) Try.underlying29 rfl hi) rfl ⟨rfl, below_setRow hb0 (Nat.le_refl _) _⟩
  | num  =>
    simp only [Pl.isTr, Pl.isSa, Pl.isDe, Pl.trC, Pl.saC, Pl.deC] at h1 h2 h3
    have q0 := (pal4 w (.cells Fl.zero.cells 29) (.cells (trCells 0 [] [] 0) 44) (.cells (saCells [] []) 51) (.cells (deCells 0 [] 0) 53))
    have hb0 := (pbel4 w (.cells Fl.zero.cells 29) (.cells (trCells 0 [] [] 0) 44) (.cells (saCells [] []) 51) (.cells (deCells 0 [] 0) 53))
    clear hV
    unfold trCells at *
    unfold saCells at *
    unfold deCells at *
    go_enter Try.func9, Try.ntmps9
    go_wp2_with (refine wpList_store_row rfl 29 (.tmp 2) (.tmp 48) rfl w.heap.size (Pl.fl .num).cells rfl rfl 29 _ q0 hi (unhide hsz) ho ?_)
    exact bodyPost_ret (results_cell_row rfl _ _ w.heap.size _ _ _ _ rfl (setRow_heap _ _ _ _ _ _ q0) Try.underlying29 rfl hi) rfl ⟨rfl, below_setRow hb0 (Nat.le_refl _) _⟩
  | tr o a b n =>
    simp only [Pl.isTr, Pl.isSa, Pl.isDe, Pl.trC, Pl.saC, Pl.deC] at h1 h2 h3
    have q0 := (al2 w (.cells Fl.zero.cells 29) (.cells (trCells o a b n) 44)).1
    have hb0 := (bel2 w (.cells Fl.zero.cells 29) (.cells (trCells o a b n) 44))
    clear hV
    unfold trCells at *
    unfold saCells at *
    unfold deCells at *
    go_enter Try.func9, Try.ntmps9
    go_wp2_with (refine wpList_store_row rfl 29 (.tmp 2) (.tmp 23) rfl w.heap.size (Pl.fl (.tr o a b n)).cells rfl rfl 29 _ q0 hi (unhide hsz) ho ?_)
    exact bodyPost_ret (results_cell_row rfl _ _ w.heap.size _ _ _ _ rfl (setRow_heap _ _ _ _ _ _ q0) Try.underlying29 rfl hi) rfl ⟨rfl, below_setRow hb0 (Nat.le_refl _) _⟩
  | sa a b =>
    simp only [Pl.isTr, Pl.isSa, Pl.isDe, Pl.trC, Pl.saC, Pl.deC] at h1 h2 h3
    have q0 := (al3 w (.cells Fl.zero.cells 29) (.cells (trCells 0 [] [] 0) 44) (.cells (saCells a b) 51)).1
    have hb0 := (bel3 w (.cells Fl.zero.cells 29) (.cells (trCells 0 [] [] 0) 44) (.cells (saCells a b) 51))
    clear hV
    unfold trCells at *
    unfold saCells at *
    unfold deCells at *
    go_enter Try.func9, Try.ntmps9
    go_wp2_with (refine wpList_store_row rfl 29 (.tmp 2) (.tmp 34) rfl w.heap.size (Pl.fl (.sa a b)).cells rfl rfl 29 _ q0 hi (unhide hsz) ho ?_)
    exact bodyPost_ret (results_cell_row rfl _ _ w.heap.size _ _ _ _ rfl (setRow_heap _ _ _ _ _ _ q0) Try.underlying29 rfl hi) rfl ⟨rfl, below_setRow hb0 (Nat.le_refl _) _⟩
  | de o a n =>
    simp only [Pl.isTr, Pl.isSa, Pl.isDe, Pl.trC, Pl.saC, Pl.deC] at h1 h2 h3
    have q0 := (pal4 w (.cells Fl.zero.cells 29) (.cells (trCells 0 [] [] 0) 44) (.cells (saCells [] []) 51) (.cells (deCells o a n) 53))
    have hb0 := (pbel4 w (.cells Fl.zero.cells 29) (.cells (trCells 0 [] [] 0) 44) (.cells (saCells [] []) 51) (.cells (deCells o a n) 53))
    clear hV
    unfold trCells at *
    unfold saCells at *
    unfold deCells at *
    go_enter Try.func9, Try.ntmps9
    go_wp2_with (refine wpList_store_row rfl 29 (.tmp 2) (.tmp 47) rfl w.heap.size (Pl.fl (.de o a n)).cells rfl rfl 29 _ q0 hi (unhide hsz) ho ?_)
    exact bodyPost_ret (results_cell_row rfl _ _ w.heap.size _ _ _ _ rfl (setRow_heap _ _ _ _ _ _ q0) Try.underlying29 rfl hi) rfl ⟨rfl, below_setRow hb0 (Nat.le_refl _) _⟩
set_option maxRecDepth 100000 in
theorem ifTr_calls (p : Pl) (w : World) :
    Calls Try.prog 36 #[p.val] w fun e w' => e = .returned (.tuple #[.agg p.trC, .bool p.isTr]) ∧ Below w.heap.size w w' := by
  have h1 := as_tr p
  have hi : (Try.prog.info? 44).map (·.size) = some p.trC.size := by cases p <;> exact (show (Try.prog.info? 44).map (·.size) = some 4 by kernel_rfl)
  have ho : p.trC.all (·.oneCell') = true := by cases p <;> simp [Pl.trC, trCells, Value.oneCell']
  have hsz : Hid ((trCells 0 [] [] 0).size = p.trC.size) := by cases p <;> rfl
  generalize p.val = V at *
  generalize p.trC = C at *
  generalize p.isTr = b at *
  have q0 := setRow_heap _ _ _ C _ _ (al2 w (.cells (trCells 0 [] [] 0) 44) (.cells (trCells 0 [] [] 0) 44)).2
  have hb0 := below_setRow (bel2 w (.cells (trCells 0 [] [] 0) 44) (.cells (trCells 0 [] [] 0) 44)) (show w.heap.size ≤ w.heap.size + 1 by omega) C
  have q1 := (setRow_other ((w.alloc (.cells (trCells 0 [] [] 0) 44)).alloc (.cells (trCells 0 [] [] 0) 44)) (w.heap.size + 1) w.heap.size C (by omega)).trans (al2 w (.cells (trCells 0 [] [] 0) 44) (.cells (trCells 0 [] [] 0) 44)).1
  go_enter Try.func36, Try.ntmps36
  go_wp2_with (first
    | (refine wpList_store_row rfl 44 (.tmp 4) (.tmp 9) rfl (w.heap.size + 1) C rfl rfl 44 _ (al2 w (.cells (trCells 0 [] [] 0) 44) (.cells (trCells 0 [] [] 0) 44)).2 hi (unhide hsz) ho ?_)
    | (refine wpList_load_row rfl 44 (.tmp 4) rfl (w.heap.size + 1) rfl 44 C (0, 0) _ q0 Try.underlying44 rfl hi ?_)
    | (refine wpList_store_row rfl 44 (.tmp 2) (.tmp 11) rfl w.heap.size C rfl rfl 44 _ q1 hi (unhide hsz) ho ?_))
  exact bodyPost_ret (results_row_tmp rfl _ _ w.heap.size _ _ _ _ rfl (setRow_heap _ _ _ _ _ _ q1) Try.underlying44 rfl hi) rfl ⟨rfl, below_setRow hb0 (Nat.le_refl _) _⟩
set_option maxRecDepth 100000 in
theorem transfer_calls (p : Pl) (w : World) :
    Calls Try.prog 17 #[p.val] w fun e w' => e = .returned (.tuple #[.agg p.trC, .bool p.isTr]) ∧ Below w.heap.size w w' := by
  have k := hide fun W => ifTr_calls p W
  have hi : (Try.prog.info? 44).map (·.size) = some p.trC.size := by cases p <;> exact (show (Try.prog.info? 44).map (·.size) = some 4 by kernel_rfl)
  have ho : p.trC.all (·.oneCell') = true := by cases p <;> simp [Pl.trC, trCells, Value.oneCell']
  have hsz : Hid ((trCells 0 [] [] 0).size = p.trC.size) := by cases p <;> rfl
  generalize p.val = V at *
  generalize p.trC = C at *
  generalize p.isTr = b at *
  have q0 := al1 w (.cells (trCells 0 [] [] 0) 44)
  have hb0 := (Below.refl w.heap.size w).alloc (Nat.le_refl _) (.cells (trCells 0 [] [] 0) 44)
  have z0 : w.heap.size < (w.alloc (.cells (trCells 0 [] [] 0) 44)).heap.size := by simp
  go_enter Try.func17, Try.ntmps17
  go_wp2_with fail
  refine (unhide k _).mono ?_
  rintro e w1 ⟨rfl, b1⟩
  have q1 := Below.at b1 z0 q0
  have hb1 := hb0.trans (b1.mono hb0.size)
  clear q0 hb0 z0 b1
  go_wp2_with (refine wpList_store_row rfl 44 (.tmp 2) (.tmp 6) rfl w.heap.size C rfl rfl 44 _ q1 hi (unhide hsz) ho ?_)
  exact bodyPost_ret (results_row_tmp rfl _ _ w.heap.size _ _ _ _ rfl (setRow_heap _ _ _ _ _ _ q1) Try.underlying44 rfl hi) rfl ⟨rfl, below_setRow hb1 (Nat.le_refl _) _⟩
theorem wpQuiet_neq {P : Program} {ops : Array Oper} {C : World → Prop} {Q : Act → Prop} {a : Act} {o : Oper} {rest : List Oper} (hw : Region.wanted o (yielded ops a.tmps) = true) (t t' : TypeId) (x y : Operand) (ho : o.op = .binOp .neq t x y t')
    (u v : Array Value) (hx : a.eval x = .agg u) (hy : a.eval y = .agg v) (hgt : P.eqGuardType P.depth t = false) (b : Bool) (he : ∀ w, (binOp .neq t (.agg u) (.agg v)).run P w = .ok (.bool b) w)
    (h : wpQuiet P ops C Q rest (a.put o.dst (.bool b))) : wpQuiet P ops C Q (o :: rest) a := by
  show if _ then _ else _
  rw [if_pos hw]
  refine ⟨.bool b, fun w hC => ?_, h⟩
  have hg : (eqGuard .neq t x y (.agg u) (.agg v)).run P w = .ok () w := run_eqGuard_agg w .neq t x y u v hgt
  unfold Oper.quietAt execOp
  simp only [ho, hx, hy, Sem.run_bind, hg, Result.andThen_ok, he]
  exact ⟨rfl, rfl⟩
theorem tr_info (p : Pl) : (Try.prog.info? 44).map (·.size) = some p.trC.size := by cases p <;> exact (show (Try.prog.info? 44).map (·.size) = some 4 by kernel_rfl)
theorem tr_one (p : Pl) : p.trC.all (·.oneCell') = true := by cases p <;> simp [Pl.trC, trCells, Value.oneCell']
theorem tr_size (p : Pl) : (trCells 0 [] [] 0).size = p.trC.size := by cases p <;> rfl
/-- A transfer is like itself. -/
theorem tr_self (o : Nat) (a b : List UInt8) (n : Nat) (w : World) : (binOp .neq 44 (.agg (trCells o a b n)) (.agg (trCells o a b n))).run Try.prog w = .ok (.bool false) w := by
  unfold trCells
  go_simp
/-- != of two rows where a guard lets it, by a law of its own. -/
theorem wpList_neq_gd {P : Program} {ops : Array Oper} {rest : List Oper} {o : Oper} {a : Act} {w : World} {Q : Exit → Act → World → Prop} (hw : Region.wanted o (yielded ops a.tmps) = true) (t t' : TypeId) (x y : Operand) (ho : o.op = .binOp .neq t x y t')
    (u v : Array Value) (hx : a.eval x = .agg u) (hy : a.eval y = .agg v) (hgt : P.eqGuardType P.depth t = false) (b : Bool) (he : ∀ w, (binOp .neq t (.agg u) (.agg v)).run P w = .ok (.bool b) w)
    (h : wpList P ops Q rest (a.put o.dst (.bool b)) w) : wpList P ops Q (o :: rest) a w :=
  wpList_step fun K hK => by
    rw [if_pos hw]
    have hg : (eqGuard .neq t x y (.agg u) (.agg v)).run P w = .ok () w := run_eqGuard_agg w .neq t x y u v hgt
    unfold Oper.wp execOp
    simp only [ho, hx, hy, Sem.run_bind, hg, Result.andThen_ok, he]
    exact hK _ _ h
end Go.Proofs.Ytlanplknendmaaa
