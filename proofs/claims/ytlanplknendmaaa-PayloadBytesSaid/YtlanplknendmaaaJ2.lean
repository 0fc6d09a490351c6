/-
  THE LAYER's awake, light AND To.
-/
/-
  A ROW STORED INTO A BLOCK THAT WAS JUST MADE: the world behind it is a letter of which all is known. Over whatever program.
-/
/-
  A ROW LOADED WHOLE INSIDE A REGION THAT DRAWS ITS ORDER, as a step of the quiet walk. Over whatever program.
-/
/-
  A PART OF A ROW LOADED INSIDE A REGION THAT DRAWS ITS ORDER, as a step of the quiet walk. Over whatever program.
-/
/-
  WHAT THE LAYER's Of AND package payload's Transfer RETURN; A PAYLOAD's FIELDS COMPARED.
-/
/-
  A BYTE OF A TEXT; DIGITS OF BASE SIXTEEN.
-/
/-
  THE DOCUMENT's OWN READER OF BYTES (layer 3): Take, Fail, Number, Text, End: it answers as wire's does.
-/
/-
  WHAT THE DOCUMENT'S OWN ANSWERS OF LAYER 3 RETURN: Big, Text, Bytes.
-/
/-
  A TEXT AS ITS RUNES AND STRAYS, ONE BEHIND THE OTHER, EACH WITH ITS BYTES. Plain definitions and lemmas.
-/
/-
  RUNES' BYTES READ AGAIN; STRAYS STAY STRAYS; WHAT A RANGE HANDS OUT AS RUNES AND STRAYS. Plain lemmas.
-/
/-
  WHAT name's Fold RETURNS.
-/
/-
  WHAT name's FUNCTIONS ANSWER, SAID OF RUNES AND STRAYS; names fold to themselves, may be said, and are names when cut. Plain lemmas.
-/
/-
  WHAT THE DOCUMENT'S OWN DECODER OF LAYER 2 RETURNS: within, One.
-/
import Derived.Test.YtlanplknendmaaaJ1
import Derived.Test.YtlanplknendmaaaJ0
import Derived.Laws.Rows
import Derived.Deep.MidRow
import Derived.Laws.StructEq
import Derived.Laws.IdiomStrings
import Derived.Lib.MapLaws
import Derived.Lib.TrimUEq
import Derived.Lib.DecodeN
namespace Go.Proofs.Ytlanplknendmaaa
open Go.RowKit
set_option linter.unusedSimpArgs false
set_option linter.unusedVariables false

set_option maxRecDepth 100000 in
theorem pawake_calls (w : World) :
    Calls Try.prog 6 #[] w fun e w' => e = .returned (.bool true) ∧ Below w.heap.size w w' := by
  have c1 := fun W => pread_calls [4] (by decide) W
  have e : pPRead [4] = (.no, 4) := rfl
  rw [e] at c1
  have C1 := hide c1
  have C2 := hide fun W => panics_bad .no rfl W
  clear c1 e
  go_enter Try.func6, Try.ntmps6
  go_wp2_with fail
  refine (unhide C1 _).mono ?_
  rintro e w1 ⟨rfl, b1⟩
  go_wp2_with fail
  refine (unhide C2 _).mono ?_
  rintro e w2 ⟨rfl, b2⟩
  go_wp2
  go_ret
  exact ⟨rfl, b1.trans (b2.mono b1.size)⟩
/-- What the law's rows are made of. -/
structure Ax where
  (k : Int) (o : Nat) (a b : List UInt8) (n : Nat)
def Ax.cells (x : Ax) : Array Value := #[.int .i64 x.k, .int .u32 (x.o : Int), .string (str x.a), .string (str x.b), .int .u64 (x.n : Int)]
structure Ax.ok (x : Ax) : Prop where
  (k1 : -9223372036854775808 ≤ x.k) (k2 : x.k ≤ 9223372036854775807) (o : x.o < 4294967296) (n : x.n < 18446744073709551616) (a : x.a.length ≤ maxLen) (b : x.b.length ≤ maxLen)
def Ax.pl (x : Ax) : Pl :=
  if x.k.tmod 5 = 0 then .tr x.o x.a x.b x.n else
  if x.k.tmod 5 = 1 then .sa x.a x.b else
  if x.k.tmod 5 = -1 then .sa x.a x.b else
  if x.k.tmod 5 = 2 then .de x.o x.a x.n else
  if x.k.tmod 5 = -2 then .de x.o x.a x.n else
  if x.k.tmod 5 = 3 then .no else
  if x.k.tmod 5 = -3 then .no else .num
theorem Ax.pl_ok (x : Ax) (h : x.ok) : x.pl.ok := by
  unfold Ax.pl
  have := h.o
  have := h.n
  repeat' split
  all_goals first | trivial | exact ⟨h.o, h.n⟩
theorem Ax.pl_most (x : Ax) (m : Nat) (ha : x.a.length ≤ m) (hb : x.b.length ≤ m) : x.pl.most m := by
  unfold Ax.pl
  repeat' split
  all_goals first | trivial | exact ⟨ha, hb⟩ | exact ha
theorem ax_info (x : Ax) : (Try.prog.info? 25).map (·.size) = some x.cells.size := (show (Try.prog.info? 25).map (·.size) = some 5 by kernel_rfl)
set_option maxRecDepth 100000 in
theorem plight_calls (x : Ax) (w : World) :
    Calls Try.prog 7 #[.agg x.cells] w fun e w' => e = .returned (.bool (if x.a.length ≤ 2000 then decide (x.b.length ≤ 2000) else false)) ∧ Below w.heap.size w w' := by
  obtain ⟨k, o, a, b, n⟩ := x
  unfold Ax.cells
  simp only
  obtain ⟨R, hR⟩ : ∃ R, (if a.length ≤ 2000 then decide (b.length ≤ 2000) else false) = R := ⟨_, rfl⟩
  rw [hR]
  have HR := hide hR
  clear hR
  by_cases h1 : a.length ≤ 2000
  · by_cases h2 : b.length ≤ 2000
    · go_enter Try.func7, Try.ntmps7
      go_wp2
      go_ret
      exact ⟨by rw [← unhide HR]; simp [h1, h2]; omega, (Below.refl _ _).alloc (Nat.le_refl _) _⟩
    · go_enter Try.func7, Try.ntmps7
      go_wp2
      go_ret
      exact ⟨by rw [← unhide HR]; simp [h1, h2]; omega, (Below.refl _ _).alloc (Nat.le_refl _) _⟩
  · go_enter Try.func7, Try.ntmps7
    go_wp2
    go_ret
    exact ⟨by rw [← unhide HR]; simp [h1], (Below.refl _ _).alloc (Nat.le_refl _) _⟩
set_option maxHeartbeats 2000000 in
set_option maxRecDepth 100000 in
theorem to_calls (x : Ax) (ok : x.ok) (w : World) :
    Calls Try.prog 8 #[.agg x.cells] w fun e w' => e = .returned x.pl.val ∧ Below w.heap.size w w' := by
  have k1 := ok.k1
  have k2 := ok.k2
  obtain ⟨k, o, a, b, n⟩ := x
  simp only at *
  obtain ⟨P, hP⟩ : ∃ P, (⟨k, o, a, b, n⟩ : Ax).pl = P := ⟨_, rfl⟩
  rw [hP]
  unfold Ax.pl at hP
  simp only at hP
  unfold Ax.cells
  simp only
  clear ok
  have hb0 := (Below.refl w.heap.size w).alloc (Nat.le_refl _) (.cells #[.int .i64 k, .int .u32 (o : Int), .string (str a), .string (str b), .int .u64 (n : Int)] 25)
  have HP := hide hP
  clear hP k1 k2
  by_cases h0 : k.tmod 5 = 0
  · have hP := unhide HP
    rw [if_pos h0] at hP
    subst hP
    have e0 : (k.tmod 5 == 0) = true := by simpa using h0
    clear HP h0
    unfold Pl.val trCells
    go_enter Try.func8, Try.ntmps8
    go_wp2
    go_ret
    exact ⟨rfl, hb0⟩
  · by_cases h1 : k.tmod 5 = 1
    · have hP := unhide HP
      rw [if_neg h0, if_pos h1] at hP
      subst hP
      have e0 : (k.tmod 5 == 0) = false := by simpa using h0
      have e1 : (k.tmod 5 == 1) = true := by simpa using h1
      clear HP h0 h1
      unfold Pl.val saCells
      go_enter Try.func8, Try.ntmps8
      go_wp2
      go_ret
      exact ⟨rfl, hb0⟩
    · by_cases h2 : k.tmod 5 = -1
      · have hP := unhide HP
        rw [if_neg h0, if_neg h1, if_pos h2] at hP
        subst hP
        have e0 : (k.tmod 5 == 0) = false := by simpa using h0
        have e1 : (k.tmod 5 == 1) = false := by simpa using h1
        have e2 : (k.tmod 5 == -1) = true := by simpa using h2
        clear HP h0 h1 h2
        unfold Pl.val saCells
        go_enter Try.func8, Try.ntmps8
        go_wp2
        go_ret
        exact ⟨rfl, hb0⟩
      · by_cases h3 : k.tmod 5 = 2
        · have hP := unhide HP
          rw [if_neg h0, if_neg h1, if_neg h2, if_pos h3] at hP
          subst hP
          have e0 : (k.tmod 5 == 0) = false := by simpa using h0
          have e1 : (k.tmod 5 == 1) = false := by simpa using h1
          have e2 : (k.tmod 5 == -1) = false := by simpa using h2
          have e3 : (k.tmod 5 == 2) = true := by simpa using h3
          clear HP h0 h1 h2 h3
          unfold Pl.val deCells
          go_enter Try.func8, Try.ntmps8
          go_wp2
          go_ret
          exact ⟨rfl, hb0⟩
        · by_cases h4 : k.tmod 5 = -2
          · have hP := unhide HP
            rw [if_neg h0, if_neg h1, if_neg h2, if_neg h3, if_pos h4] at hP
            subst hP
            have e0 : (k.tmod 5 == 0) = false := by simpa using h0
            have e1 : (k.tmod 5 == 1) = false := by simpa using h1
            have e2 : (k.tmod 5 == -1) = false := by simpa using h2
            have e3 : (k.tmod 5 == 2) = false := by simpa using h3
            have e4 : (k.tmod 5 == -2) = true := by simpa using h4
            clear HP h0 h1 h2 h3 h4
            unfold Pl.val deCells
            go_enter Try.func8, Try.ntmps8
            go_wp2
            go_ret
            exact ⟨rfl, hb0⟩
          · by_cases h5 : k.tmod 5 = 3
            · have hP := unhide HP
              rw [if_neg h0, if_neg h1, if_neg h2, if_neg h3, if_neg h4, if_pos h5] at hP
              subst hP
              have e0 : (k.tmod 5 == 0) = false := by simpa using h0
              have e1 : (k.tmod 5 == 1) = false := by simpa using h1
              have e2 : (k.tmod 5 == -1) = false := by simpa using h2
              have e3 : (k.tmod 5 == 2) = false := by simpa using h3
              have e4 : (k.tmod 5 == -2) = false := by simpa using h4
              have e5 : (k.tmod 5 == 3) = true := by simpa using h5
              clear HP h0 h1 h2 h3 h4 h5
              unfold Pl.val
              go_enter Try.func8, Try.ntmps8
              go_wp2
              go_ret
              exact ⟨rfl, hb0⟩
            · by_cases h6 : k.tmod 5 = -3
              · have hP := unhide HP
                rw [if_neg h0, if_neg h1, if_neg h2, if_neg h3, if_neg h4, if_neg h5, if_pos h6] at hP
                subst hP
                have e0 : (k.tmod 5 == 0) = false := by simpa using h0
                have e1 : (k.tmod 5 == 1) = false := by simpa using h1
                have e2 : (k.tmod 5 == -1) = false := by simpa using h2
                have e3 : (k.tmod 5 == 2) = false := by simpa using h3
                have e4 : (k.tmod 5 == -2) = false := by simpa using h4
                have e5 : (k.tmod 5 == 3) = false := by simpa using h5
                have e6 : (k.tmod 5 == -3) = true := by simpa using h6
                clear HP h0 h1 h2 h3 h4 h5 h6
                unfold Pl.val
                go_enter Try.func8, Try.ntmps8
                go_wp2
                go_ret
                exact ⟨rfl, hb0⟩
              · have hP := unhide HP
                rw [if_neg h0, if_neg h1, if_neg h2, if_neg h3, if_neg h4, if_neg h5, if_neg h6] at hP
                subst hP
                have e0 : (k.tmod 5 == 0) = false := by simpa using h0
                have e1 : (k.tmod 5 == 1) = false := by simpa using h1
                have e2 : (k.tmod 5 == -1) = false := by simpa using h2
                have e3 : (k.tmod 5 == 2) = false := by simpa using h3
                have e4 : (k.tmod 5 == -2) = false := by simpa using h4
                have e5 : (k.tmod 5 == 3) = false := by simpa using h5
                have e6 : (k.tmod 5 == -3) = false := by simpa using h6
                clear HP h0 h1 h2 h3 h4 h5 h6
                unfold Pl.val
                go_enter Try.func8, Try.ntmps8
                go_wp2
                go_ret
                exact ⟨rfl, hb0⟩
end Go.Proofs.Ytlanplknendmaaa

namespace Go.Proofs.Ytlanplknendmaaa
open Go.RowKit
set_option linter.unusedSimpArgs false
set_option linter.unusedVariables false

theorem wpList_store_newV {P : Program} {ops : Array Oper} {rest : List Oper} {op : Oper} {a : Act} {Q : Exit → Act → World → Prop} (hgd : op.guard = none) (ty : TypeId) (x y : Operand) (ho : op.op = .store ty x y)
    (W0 : World) (Z : Array Value) (t : TypeId) (D : Array Value) (hx : a.eval x = .pointer (some ⟨W0.heap.size, 0, none⟩)) (hy : a.eval y = .agg D)
    (hi : (P.info? ty).map (·.size) = some D.size) (hz : Z.size = D.size) (h1 : D.all (·.oneCell') = true)
    (h : ∀ w', w'.heap[W0.heap.size]? = some (.cells D t (0, 0)) → Below W0.heap.size W0 w' → w'.heap.size = W0.heap.size + 1 → wpList P ops Q rest (a.put op.dst undef) w') :
    wpList P ops Q (op :: rest) a (W0.alloc (.cells Z t)) := by
  refine wpList_store_row hgd ty x y ho W0.heap.size D hx hy t Z (al1 _ _) hi hz h1 ?_
  exact h _ (setRow_heap _ _ _ _ _ _ (al1 W0 (.cells Z t))) (below_setRow ((Below.refl _ _).alloc (Nat.le_refl _) _) (Nat.le_refl _) _) (by rw [setRow_size, World.size_alloc])
end Go.Proofs.Ytlanplknendmaaa

namespace Go.Proofs.Ytlanplknendmaaa
open Go Go.RowKit

theorem wpQuiet_load_row {P : Program} {ops : Array Oper} {C : World → Prop} {Q : Act → Prop} {a : Act} {o : Oper} {rest : List Oper} (hw : Region.wanted o (yielded ops a.tmps) = true) (ty : TypeId) (x : Operand) (ho : o.op = .load ty x)
    (g : Nat) (hx : a.eval x = .pointer (some ⟨g, 0, none⟩)) (t : TypeId) (cs : Array Value) (fr : Nat × Nat) (d : TypeDesc) (hg : ∀ w, C w → w.heap[g]? = some (.cells cs t fr))
    (hu : P.underlying ty = some d) (hd : (match d with | .struct _ | .array _ _ => true | _ => false) = true) (hi : (P.info? ty).map (·.size) = some cs.size)
    (h : wpQuiet P ops C Q rest (a.put o.dst (.agg cs))) : wpQuiet P ops C Q (o :: rest) a := by
  show if _ then _ else _
  rw [if_pos hw]
  refine ⟨.agg cs, fun w hC => ?_, h⟩
  have hl := run_loadVar_row w g t ty cs fr d (hg w hC) hu hd hi
  unfold Oper.quietAt execOp
  simp only [ho, hx, Instr.loadAt, Instr.sureAddr, Sem.run_bind, Sem.run_pure, Result.andThen_ok, hl]
  exact ⟨rfl, rfl⟩
end Go.Proofs.Ytlanplknendmaaa

namespace Go.Proofs.Ytlanplknendmaaa
open Go.RowKit

theorem wpQuiet_load_mid {P : Program} {ops : Array Oper} {C : World → Prop} {Q : Act → Prop} {a : Act} {o : Oper} {rest : List Oper} (hw : Region.wanted o (yielded ops a.tmps) = true) (ty : TypeId) (x : Operand) (ho : o.op = .load ty x)
    (b off : Nat) (hx : a.eval x = .pointer (some ⟨b, off, none⟩)) (cs : List Value) (d : TypeDesc) (hc : ∀ w, C w → w.rangeAt b off cs)
    (hu : P.underlying ty = some d) (hd : d.isRow = true) (hi : (P.info? ty).map (·.size) = some cs.length)
    (h : wpQuiet P ops C Q rest (a.put o.dst (.agg cs.toArray))) : wpQuiet P ops C Q (o :: rest) a := by
  show if _ then _ else _
  rw [if_pos hw]
  refine ⟨.agg cs.toArray, fun w hC => ?_, h⟩
  have hl := run_loadVar_mid w b off ty cs d (hc w hC) hu hd hi
  unfold Oper.quietAt execOp
  simp only [ho, hx, Instr.loadAt, Instr.sureAddr, Sem.run_bind, Sem.run_pure, Result.andThen_ok, hl]
  exact ⟨rfl, rfl⟩
theorem wpQuiet_eql {P : Program} {ops : Array Oper} {C : World → Prop} {Q : Act → Prop} {a : Act} {o : Oper} {rest : List Oper} (hw : Region.wanted o (yielded ops a.tmps) = true) (t t' : TypeId) (x y : Operand) (ho : o.op = .binOp .eql t x y t')
    (u v : Array Value) (hx : a.eval x = .agg u) (hy : a.eval y = .agg v) (hgt : P.eqGuardType P.depth t = false) (b : Bool) (he : ∀ w, (binOp .eql t (.agg u) (.agg v)).run P w = .ok (.bool b) w)
    (h : wpQuiet P ops C Q rest (a.put o.dst (.bool b))) : wpQuiet P ops C Q (o :: rest) a := by
  show if _ then _ else _
  rw [if_pos hw]
  refine ⟨.bool b, fun w hC => ?_, h⟩
  have hg : (eqGuard .eql t x y (.agg u) (.agg v)).run P w = .ok () w := run_eqGuard_agg w .eql t x y u v hgt
  unfold Oper.quietAt execOp
  simp only [ho, hx, hy, Sem.run_bind, hg, Result.andThen_ok, he]
  exact ⟨rfl, rfl⟩
end Go.Proofs.Ytlanplknendmaaa

namespace Go.Proofs.Ytlanplknendmaaa
open Go.RowKit
set_option linter.unusedSimpArgs false
set_option linter.unusedVariables false

/-- A payload's fields side by side. -/
structure Fl where
  (k o : Nat) (a b : List UInt8) (n : Nat)
def Fl.cells (x : Fl) : Array Value := #[.int .i64 (x.k : Int), .int .u32 (x.o : Int), .string (str x.a), .string (str x.b), .int .u64 (x.n : Int)]
def Fl.zero : Fl := ⟨0, 0, [], [], 0⟩
def Pl.fl : Pl → Fl
  | .tr o a b n => ⟨1, o, a, b, n⟩
  | .sa a b => ⟨2, 0, a, b, 0⟩
  | .de o a n => ⟨3, o, a, [], n⟩
  | _ => Fl.zero
theorem fl_info (x : Fl) : (Try.prog.info? 29).map (·.size) = some x.cells.size := (show (Try.prog.info? 29).map (·.size) = some 5 by kernel_rfl)
theorem fl_one (x : Fl) : x.cells.all (·.oneCell') = true := by simp [Fl.cells, Value.oneCell']
def pFlEq (x y : Fl) : Bool := if x.k = y.k then if x.o = y.o then if x.a = y.a then if x.b = y.b then decide (x.n = y.n) else false else false else false else false
theorem pFlEq_iff (x y : Fl) : pFlEq x y = true ↔ x = y := by
  obtain ⟨a1, a2, a3, a4, a5⟩ := x
  obtain ⟨b1, b2, b3, b4, b5⟩ := y
  simp [pFlEq]
theorem pPSame_fl (p q : Pl) : pPSame p q = if 0 < p.fl.k then pFlEq p.fl q.fl else false := by
  rw [Bool.eq_iff_iff]
  cases p <;> cases q <;> simp [pPSame, Pl.fl, Fl.zero, pFlEq]
  · rename_i o a b n o' a' b' n'
    by_cases h1 : o = o' <;> by_cases h2 : a = a' <;> by_cases h3 : b = b' <;> simp [h1, h2, h3]
    exact decide_eq_true_iff.symm
  · rename_i o a n o' a' n'
    intro _ _
    exact decide_eq_true_iff.symm
theorem pal4 (w : World) (A B C D : Obj) : ((((w.alloc A).alloc B).alloc C).alloc D).heap[w.heap.size]? = some A :=
  (Below.heap_alloc _ D _ (by simp; omega)).trans (al3 w A B C).1
theorem pbel4 (w : World) (A B C D : Obj) : Below w.heap.size w ((((w.alloc A).alloc B).alloc C).alloc D) := (bel3 w A B C).alloc (by simp; omega) _
set_option maxRecDepth 100000 in
theorem fl_eql (x y : Fl) (w : World) : (binOp .eql 29 (.agg x.cells) (.agg y.cells)).run Try.prog w = .ok (.bool (pFlEq x y)) w := by
  obtain ⟨a1, a2, a3, a4, a5⟩ := x
  obtain ⟨b1, b2, b3, b4, b5⟩ := y
  unfold pFlEq Fl.cells
  simp only
  have s := toList_eq
  by_cases h1 : a1 = b1
  · subst h1
    by_cases h2 : a2 = b2
    · subst h2
      by_cases h5 : a5 = b5
      · subst h5
        go_simp
        by_cases h3 : a3 = b3 <;> by_cases h4 : a4 = b4 <;> simp [h3, h4]
      · have e5 : ((a5 : Int) == (b5 : Int)) = false := by simp; omega
        go_simp
    · have e2 : ((a2 : Int) == (b2 : Int)) = false := by simp; omega
      go_simp
  · have e1 : ((a1 : Int) == (b1 : Int)) = false := by simp; omega
    go_simp
set_option maxHeartbeats 2000000 in
set_option maxRecDepth 100000 in
theorem pof_calls (p : Pl) (w : World) :
    Calls Try.prog 9 #[p.val] w fun e w' => e = .returned (.agg p.fl.cells) ∧ Below w.heap.size w w' := by
  have h1 := as_tr p
  have h2 := as_sa p
  have h3 := as_de p
  have hi := fl_info p.fl
  have ho := fl_one p.fl
  have hsz : Hid (Fl.zero.cells.size = p.fl.cells.size) := rfl
  generalize hV : p.val = V at *
  cases p with
  | no  =>
    simp only [Pl.isTr, Pl.isSa, Pl.isDe, Pl.trC, Pl.saC, Pl.deC] at h1 h2 h3
    have q0 := (pal4 w (.cells Fl.zero.cells 29) (.cells (trCells 0 [] [] 0) 44) (.cells (saCells [] []) 51) (.cells (deCells 0 [] 0) 53))
    have hb0 := (pbel4 w (.cells Fl.zero.cells 29) (.cells (trCells 0 [] [] 0) 44) (.cells (saCells [] []) 51) (.cells (deCells 0 [] 0) 53))
    clear hV
    unfold trCells at *
    unfold saCells at *
    unfold deCells at *
    go_enter Try.func9, Try.ntmps9
    go_wp2_with (refine wpList_store_row rfl 29 (.tmp 2) (.tmp 48) rfl w.heap.size (Pl.fl .no).cells rfl rfl 29 _ q0 hi (unhide hsz) ho ?_)
    exact bodyPost_ret (results_cell_row rfl _ _ w.heap.size _ _ _ _ rfl (setRow_heap _ _ _ _ _ _ q0) Try.underlying29 rfl hi) rfl ⟨rfl, below_setRow hb0 (Nat.le_refl _) _⟩
  | num  =>
    simp only [Pl.isTr, Pl.isSa, Pl.isDe, Pl.trC, Pl.saC, Pl.deC] at h1 h2 h3
    have q0 := (pal4 w (.cells Fl.zero.cells 29) (.cells (trCells 0 [] [] 0) 44) (.cells (saCells [] []) 51) (.cells (deCells 0 [] 0) 53))
    have hb0 := (pbel4 w (.cells Fl.zero.cells 29) (.cells (trCells 0 [] [] 0) 44) (.cells (saCells [] []) 51) (.cells (deCells 0 [] 0) 53))
    clear hV
    unfold trCells at *
    unfold saCells at *
    unfold deCells at *
    go_enter Try.func9, Try.ntmps9
    go_wp2_with (refine wpList_store_row rfl 29 (.tmp 2) (.tmp 48) rfl w.heap.size (Pl.fl .num).cells rfl rfl 29 _ q0 hi (unhide hsz) ho ?_)
    exact bodyPost_ret (results_cell_row rfl _ _ w.heap.size _ _ _ _ rfl (setRow_heap _ _ _ _ _ _ q0) Try.underlying29 rfl hi) rfl ⟨rfl, below_setRow hb0 (Nat.le_refl _) _⟩
  | tr o a b n =>
    simp only [Pl.isTr, Pl.isSa, Pl.isDe, Pl.trC, Pl.saC, Pl.deC] at h1 h2 h3
    have q0 := (al2 w (.cells Fl.zero.cells 29) (.cells (trCells o a b n) 44)).1
    have hb0 := (bel2 w (.cells Fl.zero.cells 29) (.cells (trCells o a b n) 44))
    clear hV
    unfold trCells at *
    unfold saCells at *
    unfold deCells at *
    go_enter Try.func9, Try.ntmps9
    go_wp2_with (refine wpList_store_row rfl 29 (.tmp 2) (.tmp 23) rfl w.heap.size (Pl.fl (.tr o a b n)).cells rfl rfl 29 _ q0 hi (unhide hsz) ho ?_)
    exact bodyPost_ret (results_cell_row rfl _ _ w.heap.size _ _ _ _ rfl (setRow_heap _ _ _ _ _ _ q0) Try.underlying29 rfl hi) rfl ⟨rfl, below_setRow hb0 (Nat.le_refl _) _⟩
  | sa a b =>
    simp only [Pl.isTr, Pl.isSa, Pl.isDe, Pl.trC, Pl.saC, Pl.deC] at h1 h2 h3
    have q0 := (al3 w (.cells Fl.zero.cells 29) (.cells (trCells 0 [] [] 0) 44) (.cells (saCells a b) 51)).1
    have hb0 := (bel3 w (.cells Fl.zero.cells 29) (.cells (trCells 0 [] [] 0) 44) (.cells (saCells a b) 51))
    clear hV
    unfold trCells at *
    unfold saCells at *
    unfold deCells at *
    go_enter Try.func9, Try.ntmps9
    go_wp2_with (refine wpList_store_row rfl 29 (.tmp 2) (.tmp 34) rfl w.heap.size (Pl.fl (.sa a b)).cells rfl rfl 29 _ q0 hi (unhide hsz) ho ?_)
    exact bodyPost_ret (results_cell_row rfl _ _ w.heap.size _ _ _ _ rfl (setRow_heap _ _ _ _ _ _ q0) Try.underlying29 rfl hi) rfl ⟨rfl, below_setRow hb0 (Nat.le_refl _) _⟩
  | de o a n =>
    simp only [Pl.isTr, Pl.isSa, Pl.isDe, Pl.trC, Pl.saC, Pl.deC] at h1 h2 h3
    have q0 := (pal4 w (.cells Fl.zero.cells 29) (.cells (trCells 0 [] [] 0) 44) (.cells (saCells [] []) 51) (.cells (deCells o a n) 53))
    have hb0 := (pbel4 w (.cells Fl.zero.cells 29) (.cells (trCells 0 [] [] 0) 44) (.cells (saCells [] []) 51) (.cells (deCells o a n) 53))
    clear hV
    unfold trCells at *
    unfold saCells at *
    unfold deCells at *
    go_enter Try.func9, Try.ntmps9
    go_wp2_with (refine wpList_store_row rfl 29 (.tmp 2) (.tmp 47) rfl w.heap.size (Pl.fl (.de o a n)).cells rfl rfl 29 _ q0 hi (unhide hsz) ho ?_)
    exact bodyPost_ret (results_cell_row rfl _ _ w.heap.size _ _ _ _ rfl (setRow_heap _ _ _ _ _ _ q0) Try.underlying29 rfl hi) rfl ⟨rfl, below_setRow hb0 (Nat.le_refl _) _⟩
set_option maxRecDepth 100000 in
theorem ifTr_calls (p : Pl) (w : World) :
    Calls Try.prog 36 #[p.val] w fun e w' => e = .returned (.tuple #[.agg p.trC, .bool p.isTr]) ∧ Below w.heap.size w w' := by
  have h1 := as_tr p
  have hi : (Try.prog.info? 44).map (·.size) = some p.trC.size := by cases p <;> exact (show (Try.prog.info? 44).map (·.size) = some 4 by kernel_rfl)
  have ho : p.trC.all (·.oneCell') = true := by cases p <;> simp [Pl.trC, trCells, Value.oneCell']
  have hsz : Hid ((trCells 0 [] [] 0).size = p.trC.size) := by cases p <;> rfl
  generalize p.val = V at *
  generalize p.trC = C at *
  generalize p.isTr = b at *
  have q0 := setRow_heap _ _ _ C _ _ (al2 w (.cells (trCells 0 [] [] 0) 44) (.cells (trCells 0 [] [] 0) 44)).2
  have hb0 := below_setRow (bel2 w (.cells (trCells 0 [] [] 0) 44) (.cells (trCells 0 [] [] 0) 44)) (show w.heap.size ≤ w.heap.size + 1 by omega) C
  have q1 := (setRow_other ((w.alloc (.cells (trCells 0 [] [] 0) 44)).alloc (.cells (trCells 0 [] [] 0) 44)) (w.heap.size + 1) w.heap.size C (by omega)).trans (al2 w (.cells (trCells 0 [] [] 0) 44) (.cells (trCells 0 [] [] 0) 44)).1
  go_enter Try.func36, Try.ntmps36
  go_wp2_with (first
    | (refine wpList_store_row rfl 44 (.tmp 4) (.tmp 9) rfl (w.heap.size + 1) C rfl rfl 44 _ (al2 w (.cells (trCells 0 [] [] 0) 44) (.cells (trCells 0 [] [] 0) 44)).2 hi (unhide hsz) ho ?_)
    | (refine wpList_load_row rfl 44 (.tmp 4) rfl (w.heap.size + 1) rfl 44 C (0, 0) _ q0 Try.underlying44 rfl hi ?_)
    | (refine wpList_store_row rfl 44 (.tmp 2) (.tmp 11) rfl w.heap.size C rfl rfl 44 _ q1 hi (unhide hsz) ho ?_))
  exact bodyPost_ret (results_row_tmp rfl _ _ w.heap.size _ _ _ _ rfl (setRow_heap _ _ _ _ _ _ q1) Try.underlying44 rfl hi) rfl ⟨rfl, below_setRow hb0 (Nat.le_refl _) _⟩
set_option maxRecDepth 100000 in
theorem transfer_calls (p : Pl) (w : World) :
    Calls Try.prog 17 #[p.val] w fun e w' => e = .returned (.tuple #[.agg p.trC, .bool p.isTr]) ∧ Below w.heap.size w w' := by
  have k := hide fun W => ifTr_calls p W
  have hi : (Try.prog.info? 44).map (·.size) = some p.trC.size := by cases p <;> exact (show (Try.prog.info? 44).map (·.size) = some 4 by kernel_rfl)
  have ho : p.trC.all (·.oneCell') = true := by cases p <;> simp [Pl.trC, trCells, Value.oneCell']
  have hsz : Hid ((trCells 0 [] [] 0).size = p.trC.size) := by cases p <;> rfl
  generalize p.val = V at *
  generalize p.trC = C at *
  generalize p.isTr = b at *
  have q0 := al1 w (.cells (trCells 0 [] [] 0) 44)
  have hb0 := (Below.refl w.heap.size w).alloc (Nat.le_refl _) (.cells (trCells 0 [] [] 0) 44)
  have z0 : w.heap.size < (w.alloc (.cells (trCells 0 [] [] 0) 44)).heap.size := by simp
  go_enter Try.func17, Try.ntmps17
  go_wp2_with fail
  refine (unhide k _).mono ?_
  rintro e w1 ⟨rfl, b1⟩
  have q1 := Below.at b1 z0 q0
  have hb1 := hb0.trans (b1.mono hb0.size)
  clear q0 hb0 z0 b1
  go_wp2_with (refine wpList_store_row rfl 44 (.tmp 2) (.tmp 6) rfl w.heap.size C rfl rfl 44 _ q1 hi (unhide hsz) ho ?_)
  exact bodyPost_ret (results_row_tmp rfl _ _ w.heap.size _ _ _ _ rfl (setRow_heap _ _ _ _ _ _ q1) Try.underlying44 rfl hi) rfl ⟨rfl, below_setRow hb1 (Nat.le_refl _) _⟩
theorem wpQuiet_neq {P : Program} {ops : Array Oper} {C : World → Prop} {Q : Act → Prop} {a : Act} {o : Oper} {rest : List Oper} (hw : Region.wanted o (yielded ops a.tmps) = true) (t t' : TypeId) (x y : Operand) (ho : o.op = .binOp .neq t x y t')
    (u v : Array Value) (hx : a.eval x = .agg u) (hy : a.eval y = .agg v) (hgt : P.eqGuardType P.depth t = false) (b : Bool) (he : ∀ w, (binOp .neq t (.agg u) (.agg v)).run P w = .ok (.bool b) w)
    (h : wpQuiet P ops C Q rest (a.put o.dst (.bool b))) : wpQuiet P ops C Q (o :: rest) a := by
  show if _ then _ else _
  rw [if_pos hw]
  refine ⟨.bool b, fun w hC => ?_, h⟩
  have hg : (eqGuard .neq t x y (.agg u) (.agg v)).run P w = .ok () w := run_eqGuard_agg w .neq t x y u v hgt
  unfold Oper.quietAt execOp
  simp only [ho, hx, hy, Sem.run_bind, hg, Result.andThen_ok, he]
  exact ⟨rfl, rfl⟩
theorem tr_info (p : Pl) : (Try.prog.info? 44).map (·.size) = some p.trC.size := by cases p <;> exact (show (Try.prog.info? 44).map (·.size) = some 4 by kernel_rfl)
theorem tr_one (p : Pl) : p.trC.all (·.oneCell') = true := by cases p <;> simp [Pl.trC, trCells, Value.oneCell']
theorem tr_size (p : Pl) : (trCells 0 [] [] 0).size = p.trC.size := by cases p <;> rfl
/-- A transfer is like itself. -/
theorem tr_self (o : Nat) (a b : List UInt8) (n : Nat) (w : World) : (binOp .neq 44 (.agg (trCells o a b n)) (.agg (trCells o a b n))).run Try.prog w = .ok (.bool false) w := by
  unfold trCells
  go_simp
/-- != of two rows where a guard lets it, by a law of its own. -/
theorem wpList_neq_gd {P : Program} {ops : Array Oper} {rest : List Oper} {o : Oper} {a : Act} {w : World} {Q : Exit → Act → World → Prop} (hw : Region.wanted o (yielded ops a.tmps) = true) (t t' : TypeId) (x y : Operand) (ho : o.op = .binOp .neq t x y t')
    (u v : Array Value) (hx : a.eval x = .agg u) (hy : a.eval y = .agg v) (hgt : P.eqGuardType P.depth t = false) (b : Bool) (he : ∀ w, (binOp .neq t (.agg u) (.agg v)).run P w = .ok (.bool b) w)
    (h : wpList P ops Q rest (a.put o.dst (.bool b)) w) : wpList P ops Q (o :: rest) a w :=
  wpList_step fun K hK => by
    rw [if_pos hw]
    have hg : (eqGuard .neq t x y (.agg u) (.agg v)).run P w = .ok () w := run_eqGuard_agg w .neq t x y u v hgt
    unfold Oper.wp execOp
    simp only [ho, hx, hy, Sem.run_bind, hg, Result.andThen_ok, he]
    exact hK _ _ h
end Go.Proofs.Ytlanplknendmaaa

namespace Go.Proofs.Ytlanplknendmaaa
open Go.RowKit
set_option linter.unusedSimpArgs false
set_option linter.unusedVariables false

def hexList : List UInt8 := [48, 49, 50, 51, 52, 53, 54, 55, 56, 57, 97, 98, 99, 100, 101, 102]
def hexd (n : Nat) : UInt8 := hexList.getD n 0
theorem str_index (l : List UInt8) (n : Nat) (h : n < l.length) (w : World) : (Instr.index 9 (.string (str l)) (.int .i64 (n : Int))).run Try.prog w = .ok (.int .u8 ((l.getD n 0).toNat : Int)) w := by
  rw [run_index_string w 9 _ .i64 n Try.underlying9, dif_pos ⟨by omega, by rw [str_size]; omega⟩]
  simp only [Int.toNat_natCast]
  rw [byte_at (str l) n (by rw [str_size]; exact h), str_toList]
theorem hex_index (n : Nat) (h : n < 16) (w : World) : (Instr.index 9 (.string ⟨#[48, 49, 50, 51, 52, 53, 54, 55, 56, 57, 97, 98, 99, 100, 101, 102]⟩) (.int .u8 (n : Int))).run Try.prog w = .ok (.int .u8 ((hexd n).toNat : Int)) w := by
  rw [run_index_string w 9 _ .u8 n Try.underlying9, dif_pos ⟨by omega, by show (n : Int) < 16; omega⟩]
  have : ∀ n : Nat, n < 16 → ∀ h', ((⟨#[48, 49, 50, 51, 52, 53, 54, 55, 56, 57, 97, 98, 99, 100, 101, 102]⟩ : ByteArray)[n]'h').toNat = (hexd n).toNat := by decide
  simp only [Int.toNat_natCast]
  rw [this n h]

end Go.Proofs.Ytlanplknendmaaa

namespace Go.Proofs.Ytlanplknendmaaa
open Go.RowKit
set_option linter.unusedSimpArgs false
set_option linter.unusedVariables false

def DdAt (w : World) (g : Nat) (r : Rd) : Prop := w.heap[g]? = some (.cells r.cells 66 (0, 0))
theorem DdAt.lt {w : World} {g : Nat} {r : Rd} (h : DdAt w g r) : g < w.heap.size := (Array.getElem?_eq_some_iff.1 h).1
theorem DdAt.below {w w' : World} {g : Nat} {r : Rd} (h : DdAt w g r) (hb : Below w.heap.size w w') : DdAt w' g r := (hb.block g h.lt).trans h
theorem DdAt.c0 {w : World} {g : Nat} {r : Rd} (h : DdAt w g r) : w.cell? ⟨g, 0, none⟩ = some (.string (str r.rest)) := cell_of_row _ _ _ _ _ _ h
theorem DdAt.c1 {w : World} {g : Nat} {r : Rd} (h : DdAt w g r) : w.cell? ⟨g, 1, none⟩ = some (.int .i64 r.err) := cell_of_row _ _ _ _ _ _ h
theorem DdAt.f0 {w : World} {g : Nat} {r : Rd} (h : DdAt w g r) (o : Nat) : w.frozen? ⟨g, o, none⟩ = false := frozen_of_row _ _ _ _ _ h
theorem DdAt.set1 {w : World} {g : Nat} {r : Rd} (h : DdAt w g r) (e : Int) : DdAt (w.setCell ⟨g, 1, none⟩ (.int .i64 e)) g ⟨r.rest, e⟩ := heap_setCell_same _ _ _ _ _ _ h
theorem DdAt.set0 {w : World} {g : Nat} {r : Rd} (h : DdAt w g r) (l : List UInt8) : DdAt (w.setCell ⟨g, 0, none⟩ (.string (str l))) g ⟨l, r.err⟩ := heap_setCell_same _ _ _ _ _ _ h
theorem DdAt.other {g G o : Nat} {w : World} {r : Rd} (h : DdAt w g r) (hG : g ≠ G) (v : Value) : DdAt (w.setCell ⟨G, o, none⟩ v) g r :=
  (heap_setCell_other _ _ _ _ (by show g ≠ G; exact hG)).trans h

theorem dfail_calls (g : Nat) (r : Rd) (k : Int) (w : World) (h : DdAt w g r) :
    Calls Try.prog 31 #[.pointer (some ⟨g, 0, none⟩), .int .i64 k] w fun e w' => e = .returned (.tuple #[]) ∧ DdAt w' g (r.fail k) ∧ Turned g w w' := by
  have c1 := h.c1
  have f1 := h.f0 1
  by_cases h0 : r.err = 0
  · have e1 : (r.err == 0) = true := by simpa using h0
    have hr : r.fail k = ⟨r.rest, k⟩ := by rw [Rd.fail, if_pos h0]
    have H := hide h
    rw [hr]
    generalize r.err = re at *
    clear h0 h hr
    go_enter Try.func31, Try.ntmps31
    go_wp2
    go_end0
    exact ⟨rfl, (unhide H).set1 k, (Turned.refl _ _).setCell _⟩
  · have e1 : (r.err == 0) = false := by simpa using h0
    have hr : r.fail k = r := by rw [Rd.fail, if_neg h0]
    have H := hide h
    rw [hr]
    clear h0 h hr
    go_enter Try.func31, Try.ntmps31
    go_wp2
    go_end0
    exact ⟨rfl, unhide H, Turned.refl _ _⟩
theorem dend_calls (g : Nat) (r : Rd) (w : World) (h : DdAt w g r) :
    Calls Try.prog 33 #[.pointer (some ⟨g, 0, none⟩)] w fun e w' => e = .returned (.int .i64 r.end') ∧ w' = w := by
  have c0 := h.c0
  have c1 := h.c1
  clear h
  by_cases h0 : r.err = 0
  · have e1 : (r.err == 0) = true := by simpa using h0
    by_cases h1 : r.rest = []
    · have hr : r.end' = r.err := by simp [Rd.end', h0, h1]
      have hd : decide (0 < r.rest.length) = false := by simp [h1]
      have hd' : decide (0 < (r.rest.length : Int)) = false := by simp [h1]
      rw [hr]
      generalize r.err = re at *
      clear hr h0 h1
      go_enter Try.func33, Try.ntmps33
      go_wp2
      go_ret
      exact ⟨rfl, rfl⟩
    · have hr : r.end' = 4 := by simp [Rd.end', h0, h1]
      have hlen : 0 < r.rest.length := List.length_pos_iff.2 h1
      have hd : decide (0 < r.rest.length) = true := by simpa using hlen
      have hd' : decide (0 < (r.rest.length : Int)) = true := by simp; omega
      rw [hr]
      generalize r.err = re at *
      clear hr h0 h1
      go_enter Try.func33, Try.ntmps33
      go_wp2
      go_ret
      exact ⟨rfl, rfl⟩
  · have e1 : (r.err == 0) = false := by simpa using h0
    have hr : r.end' = r.err := by simp [Rd.end', h0]
    rw [hr]
    clear hr h0
    go_enter Try.func33, Try.ntmps33
    go_wp2
    go_ret
    exact ⟨rfl, rfl⟩
set_option maxHeartbeats 1000000 in
theorem dtake_calls (g n : Nat) (hn : n ≤ 4611686018427387904) (r : Rd) (hl : r.rest.length ≤ 4611686018427387904) (w : World) (h : DdAt w g r) :
    Calls Try.prog 51 #[.pointer (some ⟨g, 0, none⟩), .int .i64 (n : Int)] w fun e w' => e = .returned (.string (str (r.take n).1)) ∧ DdAt w' g (r.take n).2 ∧ Turned g w w' := by
  have c0 := h.c0
  have c1 := h.c1
  have f0 := h.f0 0
  have f1 := h.f0 1
  by_cases h0 : r.err = 0
  · have e0 : (r.err == 0) = true := by simpa using h0
    have e0' : (r.err != 0) = false := by simpa using h0
    by_cases h1 : r.rest.length < n
    · have hd : decide (r.rest.length < n) = true := by simp; omega
      have hr : r.take n = ([], ⟨r.rest, 3⟩) := by simp [Rd.take, h0, h1]
      rw [hr]
      have H := hide h
      clear hr h0 h1 h
      go_enter Try.func51, Try.ntmps51
      go_wp2
      go_ret
      exact ⟨rfl, (unhide H).set1 3, (Turned.refl _ _).setCell _⟩
    · have hd : decide (r.rest.length < n) = false := by simp; omega
      have hr : r.take n = (r.rest.take n, ⟨r.rest.drop n, 0⟩) := by simp [Rd.take, h0, h1]
      rw [hr]
      have H := hide h
      have H0 := hide h0
      have es := take_str r.rest n
      have ed := drop_str r.rest n _ rfl
      have b0 : (n : Int) ≤ (r.rest.length : Int) := by omega
      clear hr h0 h1 h
      go_enter Try.func51, Try.ntmps51
      go_wp2
      go_ret
      have h2 := (unhide H).set0 (r.rest.drop n)
      rw [unhide H0] at h2
      exact ⟨rfl, h2, (Turned.refl _ _).setCell _⟩
  · have e0 : (r.err == 0) = false := by simpa using h0
    have e0' : (r.err != 0) = true := by simpa using h0
    have hr : r.take n = ([], r) := by simp [Rd.take, h0]
    rw [hr]
    have H := hide h
    clear hr h0 h
    go_enter Try.func51, Try.ntmps51
    go_wp2
    go_ret
    exact ⟨rfl, unhide H, Turned.refl _ _⟩
set_option maxHeartbeats 400000 in
theorem dnumber_calls (g n : Nat) (hn : n ≤ 8) (r : Rd) (hl : r.rest.length ≤ 4611686018427387904) (w : World) (h : DdAt w g r) :
    Calls Try.prog 30 #[.pointer (some ⟨g, 0, none⟩), .int .i64 (n : Int)] w fun e w' => e = .returned (.int .u64 ((r.num n).1 : Int)) ∧ DdAt w' g (r.num n).2 ∧ Turned g w w' := by
  have ht := dtake_calls g n (by omega) r hl w h
  have hlen := Nat.le_trans (r.take_length n) hn
  unfold Rd.num
  simp only
  generalize (r.take n).2 = r' at *
  generalize (r.take n).1 = l at *
  have Ht := hide ht
  clear ht h
  go_enter Try.func30, Try.ntmps30
  go_wp2_with fail
  refine (unhide Ht).mono ?_
  rintro e w1 ⟨rfl, hD, hT⟩
  have HD := hide hD
  have HT := hide hT
  clear hD hT
  go_wp2
  go_loopw [5, 7] (fun a i wr => ∃ k : Nat, k ≤ l.length ∧ a = .int .u64 (pNum (l.take k) : Int) ∧ i = .int .i64 (k : Int) ∧ wr = w1) (fun _ i _ => l.length - (intOf i).toNat)
  case atStart => exact ⟨0, by omega, rfl, rfl, rfl⟩
  case round =>
    obtain ⟨k, hk, rfl, rfl, rfl⟩ := hrel
    by_cases hlt : k < l.length
    · have c := str_index l k hlt
      have hsn := take_snoc' l k 0 hlt
      generalize hb : l.getD k 0 = b at *
      have hpn := pNum_snoc (l.take k) b
      rw [← hsn] at hpn
      have hlt2 := pNum_lt (l.take k)
      have hm : pNum (l.take k) < 72057594037927936 := Nat.lt_of_lt_of_le hlt2 (by
        have : (l.take k).length ≤ 7 := by simp; omega
        calc 256 ^ (l.take k).length ≤ 256 ^ 7 := Nat.pow_le_pow_right (by decide) this
          _ = 72057594037927936 := by decide)
      generalize pNum (l.take k) = m at *
      have hb8 := b.toNat_lt
      have hd : decide (k < l.length) = true := by simpa using hlt
      have b1 : (k : Int) < (l.length : Int) := by omega
      have Hpn := hide hpn
      clear hpn hsn hb hlt2
      go_wp2
      go_roundw
      case rel =>
        refine ⟨k + 1, by omega, ?_, by go_num, trivial⟩
        rw [unhide Hpn]
        congr 1
      case measure => simp [intOf]; omega
    · obtain rfl : k = l.length := by omega
      have hd : decide (l.length < l.length) = false := by simp
      rw [List.take_length]
      go_wp2
      go_ret
      exact ⟨rfl, unhide HD, unhide HT⟩
/-- Behind a failure nothing is taken, however much. -/
theorem Rd.take_bad (r : Rd) (n m : Nat) (h : r.err ≠ 0) : r.take n = r.take m := by simp [Rd.take, h]
theorem dtext_calls (g : Nat) (r : Rd) (hl : r.rest.length ≤ 4611686018427387904) (most : Nat) (hm : most < 4294967296) (w : World) (h : DdAt w g r) :
    Calls Try.prog 32 #[.pointer (some ⟨g, 0, none⟩), .int .i64 (most : Int)] w fun e w' => e = .returned (.string (str (r.text (most : Int)).1)) ∧ DdAt w' g (r.text (most : Int)).2 ∧ Turned g w w' := by
  have hn := dnumber_calls g 4 (by decide) r hl w h
  have hlt := r.num_lt 4
  have hrs : (r.num 4).2.rest.length ≤ r.rest.length := Rd.take_rest _ _
  unfold Rd.text Rd.len
  simp only
  generalize (r.num 4).2 = r1 at *
  generalize (r.num 4).1 = m at *
  have Hn := hide hn
  have hm1 : decide ((most : Int) < 0) = false := by simp
  have hm2 : decide ((most : Int) ≥ 0) = true := by simp
  clear hn h
  by_cases hc : most < m
  · have hc' : 0 < m ∧ (most : Int) < (m : Int) := by omega
    rw [if_pos hc']
    have hcd : decide (most < m) = true := by simpa using hc
    have hbad := Rd.fail_rest r1 5
    have ht := fun W hW => dtake_calls g 0 (by omega) (r1.fail 5) (by rw [hbad]; omega) W hW
    rw [Rd.take_bad (r1.fail 5) 0 m (by unfold Rd.fail; split <;> simp_all)] at ht
    have Hf := hide fun W hW => dfail_calls g r1 5 W hW
    have Ht := hide ht
    generalize (r1.fail 5).take m = tk at *
    generalize r1.fail 5 = r2 at *
    have hmany : Calls Try.prog 52 #[.pointer (some ⟨g, 0, none⟩), .int .i64 (most : Int)] w fun e w' => e = .returned (.int .i64 0) ∧ DdAt w' g r2 ∧ Turned g w w' := by
      clear hc' ht hbad hc
      go_enter Try.func52, Try.ntmps52
      go_wp2_with fail
      refine (unhide Hn).mono ?_
      rintro e w1 ⟨rfl, D1, T1⟩
      go_wp2_with fail
      refine (unhide Hf _ D1).mono ?_
      rintro e w2 ⟨rfl, D2, T2⟩
      go_wp2
      go_ret
      exact ⟨rfl, D2, T1.trans T2⟩
    have Hmany := hide hmany
    clear hmany hc' ht hbad hc
    go_enter Try.func32, Try.ntmps32
    go_wp2_with fail
    refine (unhide Hmany).mono ?_
    rintro e w1 ⟨rfl, D1, T1⟩
    go_wp2_with fail
    refine (unhide Ht _ D1).mono ?_
    rintro e w2 ⟨rfl, D2, T2⟩
    go_wp2
    go_ret
    exact ⟨rfl, D2, T1.trans T2⟩
  · have hc' : ¬ (0 < m ∧ (most : Int) < (m : Int)) := by omega
    rw [if_neg hc']
    have hcd : decide (most < m) = false := by simpa using hc
    have ht := fun W hW => dtake_calls g m (by omega) r1 (by omega) W hW
    have Ht := hide ht
    generalize r1.take m = tk at *
    have hmany : Calls Try.prog 52 #[.pointer (some ⟨g, 0, none⟩), .int .i64 (most : Int)] w fun e w' => e = .returned (.int .i64 (m : Int)) ∧ DdAt w' g r1 ∧ Turned g w w' := by
      clear hc' ht hc
      go_enter Try.func52, Try.ntmps52
      go_wp2_with fail
      refine (unhide Hn).mono ?_
      rintro e w1 ⟨rfl, D1, T1⟩
      go_wp2
      go_ret
      exact ⟨rfl, D1, T1⟩
    have Hmany := hide hmany
    clear hmany hc' ht hc
    go_enter Try.func32, Try.ntmps32
    go_wp2_with fail
    refine (unhide Hmany).mono ?_
    rintro e w1 ⟨rfl, D1, T1⟩
    go_wp2_with fail
    refine (unhide Ht _ D1).mono ?_
    rintro e w2 ⟨rfl, D2, T2⟩
    go_wp2
    go_ret
    exact ⟨rfl, D2, T1.trans T2⟩
end Go.Proofs.Ytlanplknendmaaa

namespace Go.Proofs.Ytlanplknendmaaa
open Go.RowKit
set_option linter.unusedSimpArgs false
set_option linter.unusedVariables false

theorem byte256 (q : Nat) : (q : Int) % 256 = ((UInt8.ofNat q).toNat : Int) := by
  rw [UInt8.toNat_ofNat']
  show (q : Int) % 256 = ((q % 256 : Nat) : Int)
  omega
set_option maxHeartbeats 400000 in
set_option maxRecDepth 100000 in
theorem rbig_calls (n k : Nat) (hn : n < 18446744073709551616) (hk : k ≤ 8) (hk1 : 1 ≤ k) (w : World) :
    Calls Try.prog 25 #[.int .u64 (n : Int), .int .i64 (k : Int)] w fun e w' => e = .returned (.string (str (pBig n k))) ∧ Below w.heap.size w w' := by
  have hlen := pBig_length n k
  have hat := pBig_at n k
  generalize hP : pBig n k = P at *
  have HP := hide hP
  have Hlen := hide hlen
  have Hat := hide hat
  clear hP hlen hat
  go_enter Try.func25, Try.ntmps25
  go_wp2
  go_loopw [0, 6] (fun a i wr => ∃ j m : Nat, j ≤ k ∧ Hid (m = n / 2 ^ (8 * (k - j))) ∧ a = .int .u64 (m : Int) ∧ i = .int .i64 ((j : Int) - 1) ∧ Below w.heap.size w wr ∧ wr.heap[w.heap.size]? = some (.cells (bc (List.replicate j 0 ++ P.drop j ++ List.replicate (8 - k) 0)) 74 (0, 0))) (fun _ i _ => (intOf i + 1).toNat)
  case atStart =>
    refine ⟨k, n, Nat.le_refl _, ?_, rfl, rfl, (Below.refl _ _).alloc (Nat.le_refl _) _, ?_⟩
    · show n = _; simp
    · rw [al1, List.drop_of_length_le (by rw [unhide Hlen]; omega), List.append_nil, List.replicate_append_replicate, show k + (8 - k) = 8 by omega]; rfl
  case round =>
    obtain ⟨j, m, hj, hm, rfl, rfl, hb, q⟩ := hrel
    cases j with
    | succ j =>
      rw [show ((j + 1 : Nat) : Int) - 1 = (j : Int) by omega]
      have hd : decide ((0 : Int) ≤ (j : Int)) = true := by simp
      have hsp : List.replicate (j + 1) (0 : UInt8) ++ P.drop (j + 1) ++ List.replicate (8 - k) 0 = List.replicate j 0 ++ 0 :: (P.drop (j + 1) ++ List.replicate (8 - k) 0) := by
        rw [List.replicate_succ']; simp
      rw [hsp] at q
      have hl : (List.replicate j 0 ++ 0 :: (P.drop (j + 1) ++ List.replicate (8 - k) 0) : List UInt8).length = 8 := by simp [unhide Hlen]; omega
      have c : wr.cell? ⟨w.heap.size, j, none⟩ = some (.int .u8 (((List.replicate j 0 ++ 0 :: (P.drop (j + 1) ++ List.replicate (8 - k) 0) : List UInt8).getD j 0).toNat : Int)) := by
        rw [cell_of_row _ _ _ _ _ _ q]; exact bc_at _ _ (by omega)
      have f : wr.frozen? ⟨w.heap.size, j, none⟩ = false := frozen_of_row _ _ _ _ _ q
      have b1 : (j : Int) < 8 := by omega
      generalize hv : (List.replicate j 0 ++ 0 :: (P.drop (j + 1) ++ List.replicate (8 - k) 0) : List UInt8).getD j 0 = v at c
      obtain ⟨m2, hm2, em2⟩ : ∃ m2 : Nat, Hid (m / 256 = m2) ∧ (m : Int) / 256 = (m2 : Int) := ⟨_, rfl, by omega⟩
      have hmn : m ≤ n := by rw [unhide hm]; exact Nat.div_le_self _ _
      have wu := wu64 (m2 : Int) (by omega) (by have := unhide hm2; omega)
      have Q := hide q
      clear hl hv q hsp hmn
      go_wp2
      go_roundw
      case rel =>
        refine ⟨j, m2, by omega, ?_, rfl, by go_num, hb.setCell (by simp) _, ?_⟩
        · show m2 = _
          rw [← unhide hm2, unhide hm, Nat.div_div_eq_div_mul, show (256 : Nat) = 2 ^ 8 from rfl, ← Nat.pow_add, show 8 * (k - (j + 1)) + 8 = 8 * (k - j) by omega]
        · rw [byte256, heap_setCell_same _ _ _ _ _ _ (unhide Q), bc_set _ _ _ _ _ (by simp)]
          have e2 := unhide Hat j (by omega)
          rw [show k - 1 - j = k - (j + 1) by omega, ← unhide hm] at e2
          rw [drop_cons' P j 0 (by rw [unhide Hlen]; omega), e2]; simp
      case measure => simp [intOf]
    | zero =>
      have hd : decide ((0 : Int) ≤ (((0 : Nat) : Int) - 1)) = false := by decide
      have q' : wr.heap[w.heap.size]? = some (.cells (bc (P ++ List.replicate (8 - k) 0)) 74 (0, 0)) := by
        rw [q]; simp
      have hcv := run_convert_bytes_back (P := Try.prog) wr 75 9 5 ⟨w.heap.size, 0, none⟩ 8 P Try.underlying75 Try.underlying5 Try.underlying9 (fun j hj => by
        have hadd : (⟨w.heap.size, 0, none⟩ : Addr).add j = ⟨w.heap.size, j, none⟩ := by unfold Addr.add; split <;> simp_all
        rw [hadd, cell_of_row _ _ _ _ _ _ q', bc_at _ _ (by simp; omega)]; simp [hj, List.getElem?_append_left])
      rw [unhide Hlen] at hcv
      have b1 : (k : Int) ≤ 8 := by omega
      clear q q'
      go_wp2
      go_ret
      exact ⟨by rfl, hb⟩
theorem rtext3_calls (l : List UInt8) (hl : l.length < 4294967296) (w : World) :
    Calls Try.prog 26 #[.string (str l)] w fun e w' => e = .returned (.string (str (pText4 l))) ∧ Below w.heap.size w w' := by
  have hc := rbig_calls l.length 4 (by omega) (by decide) (by decide) w
  unfold pText4
  have hlen := pBig_length l.length 4
  generalize pBig l.length 4 = B at *
  have Hc := hide hc
  have ea := append_str B l
  have n1 : ¬ 9223372036854775807 < B.length + l.length := by omega
  clear hc hlen
  go_enter Try.func26, Try.ntmps26
  go_wp2_with fail
  refine (unhide Hc).mono ?_
  rintro e w' ⟨rfl, hb⟩
  go_wp2
  go_ret
  exact ⟨rfl, hb⟩
end Go.Proofs.Ytlanplknendmaaa

namespace Go.Proofs.Ytlanplknendmaaa
open Go
set_option linter.unusedSimpArgs false
set_option linter.unusedVariables false

/-- A rune's number (none of a stray), and the bytes. -/
abbrev Tok := Option Nat × List UInt8
def headTok (l : List UInt8) : Tok := (if (Lib.decodeL l).1 = 65533 ∧ (Lib.decodeL l).2 = 1 then none else some (Lib.decodeL l).1, l.take (Lib.decodeL l).2)
def tkF : Nat → List UInt8 → List Tok
  | 0, _ => []
  | f + 1, l => if l = [] then [] else headTok l :: tkF f (l.drop (Lib.decodeL l).2)
def tk (l : List UInt8) : List Tok := tkF l.length l
def flat (ts : List Tok) : List UInt8 := ts.flatMap (·.2)
@[simp] theorem flat_nil : flat [] = [] := rfl
@[simp] theorem flat_cons (t : Tok) (ts : List Tok) : flat (t :: ts) = t.2 ++ flat ts := by simp [flat]
theorem flat_append (a b : List Tok) : flat (a ++ b) = flat a ++ flat b := by simp [flat]

theorem tkF_nil (f : Nat) : tkF f [] = [] := by cases f <;> simp [tkF]
theorem tkF_more : ∀ (f g : Nat) (l : List UInt8), l.length ≤ f → l.length ≤ g → tkF f l = tkF g l
  | 0, g, l, hf, hg => by
    have : l = [] := List.eq_nil_of_length_eq_zero (by omega)
    subst this; simp [tkF, tkF_nil]
  | f + 1, 0, l, hf, hg => by
    have : l = [] := List.eq_nil_of_length_eq_zero (by omega)
    subst this; simp [tkF]
  | f + 1, g + 1, l, hf, hg => by
    unfold tkF
    split
    · rfl
    · rename_i hne
      have hw := Lib.decodeL_width l
      rw [tkF_more f g _ (by rw [List.length_drop]; omega) (by rw [List.length_drop]; omega)]
theorem tk_nil : tk [] = [] := rfl
theorem tk_cons (l : List UInt8) (h : l ≠ []) : tk l = headTok l :: tk (l.drop (Lib.decodeL l).2) := by
  have hl : 0 < l.length := List.length_pos_iff.2 h
  have hw := Lib.decodeL_width l
  unfold tk
  obtain ⟨n, hn⟩ : ∃ n, l.length = n + 1 := ⟨l.length - 1, by omega⟩
  rw [hn, show tkF (n + 1) l = headTok l :: tkF n (l.drop (Lib.decodeL l).2) from by simp [tkF, h]]
  rw [tkF_more n (l.drop (Lib.decodeL l).2).length _ (by rw [List.length_drop]; omega) (Nat.le_refl _)]
theorem flat_tk : ∀ (n : Nat) (l : List UInt8), l.length ≤ n → flat (tk l) = l
  | 0, l, h => by
    have : l = [] := List.eq_nil_of_length_eq_zero (by omega)
    subst this; rfl
  | n + 1, l, h => by
    by_cases h0 : l = []
    · subst h0; rfl
    · have hw := Lib.decodeL_width l
      have hl : 0 < l.length := List.length_pos_iff.2 h0
      rw [tk_cons l h0, flat_cons, flat_tk n _ (by rw [List.length_drop]; omega)]
      exact List.take_append_drop _ _
theorem flat_of_tk (l : List UInt8) : flat (tk l) = l := flat_tk _ l (Nat.le_refl _)

/-- Each begins where the one ahead of it ends. -/
def Good : List Tok → Prop
  | [] => True
  | t :: ts => t.2 ≠ [] ∧ headTok (t.2 ++ flat ts) = t ∧ Good ts
theorem headTok_width (t : Tok) (x : List UInt8) (hne : t.2 ++ x ≠ []) (h : headTok (t.2 ++ x) = t) : (Lib.decodeL (t.2 ++ x)).2 = t.2.length := by
  have h2 := congrArg (fun t => t.2.length) h
  simp only [headTok, List.length_take] at h2
  have := Lib.decodeL_le _ hne
  omega
theorem tk_flat : ∀ ts : List Tok, Good ts → tk (flat ts) = ts
  | [], _ => rfl
  | t :: ts, ⟨h1, h2, h3⟩ => by
    have hne : t.2 ++ flat ts ≠ [] := by simp [h1]
    rw [flat_cons, tk_cons _ hne, h2, headTok_width t _ hne h2]
    simp [tk_flat ts h3]
theorem good_tk : ∀ (n : Nat) (l : List UInt8), l.length ≤ n → Good (tk l)
  | 0, l, h => by
    have : l = [] := List.eq_nil_of_length_eq_zero (by omega)
    subst this; trivial
  | n + 1, l, h => by
    by_cases h0 : l = []
    · subst h0; trivial
    · have hw := Lib.decodeL_width l
      have hl : 0 < l.length := List.length_pos_iff.2 h0
      rw [tk_cons l h0]
      refine ⟨?_, ?_, good_tk n _ (by rw [List.length_drop]; omega)⟩
      · intro hc
        have hc' : l.take (Lib.decodeL l).2 = [] := hc
        have := congrArg List.length hc'
        rw [List.length_take, List.length_nil] at this
        omega
      · rw [flat_of_tk]
        show headTok (l.take _ ++ l.drop _) = _
        rw [List.take_append_drop]
theorem good_of_tk (l : List UInt8) : Good (tk l) := good_tk _ l (Nat.le_refl _)

/-! What a rune's bytes are, whatever follows. -/
theorem sh2 (n b0 b1 b2 b3 : Nat) (h0 : b0 / 32 = 6) (hn : 1 < n) (h1 : b1 / 64 = 2) (hv : 128 ≤ b0 % 32 * 64 + b1 % 64) : Lib.decodeN n b0 b1 b2 b3 = (b0 % 32 * 64 + b1 % 64, 2) := by
  unfold Lib.decodeN
  rw [if_neg (by omega), if_pos ⟨h0, hn, h1⟩, if_pos hv]
theorem sh3 (n b0 b1 b2 b3 : Nat) (h0 : b0 / 16 = 14) (hn : 2 < n) (h1 : b1 / 64 = 2) (h2 : b2 / 64 = 2) (hv : 2048 ≤ b0 % 16 * 4096 + b1 % 64 * 64 + b2 % 64) (hs : b0 % 16 * 4096 + b1 % 64 * 64 + b2 % 64 < 55296 ∨ 57344 ≤ b0 % 16 * 4096 + b1 % 64 * 64 + b2 % 64) : Lib.decodeN n b0 b1 b2 b3 = (b0 % 16 * 4096 + b1 % 64 * 64 + b2 % 64, 3) := by
  unfold Lib.decodeN
  rw [if_neg (by omega), if_neg (by omega), if_pos ⟨h0, ⟨by omega, h1⟩, hn, h2⟩, if_pos ⟨hv, by omega⟩]
theorem sh4 (n b0 b1 b2 b3 : Nat) (h0 : b0 / 8 = 30) (hn : 3 < n) (h1 : b1 / 64 = 2) (h2 : b2 / 64 = 2) (h3 : b3 / 64 = 2) (hv : 65536 ≤ b0 % 8 * 262144 + b1 % 64 * 4096 + b2 % 64 * 64 + b3 % 64) (hs : b0 % 8 * 262144 + b1 % 64 * 4096 + b2 % 64 * 64 + b3 % 64 ≤ 1114111) : Lib.decodeN n b0 b1 b2 b3 = (b0 % 8 * 262144 + b1 % 64 * 4096 + b2 % 64 * 64 + b3 % 64, 4) := by
  unfold Lib.decodeN
  rw [if_neg (by omega), if_neg (by omega), if_neg (by omega), if_pos ⟨h0, ⟨by omega, h1⟩, ⟨by omega, h2⟩, hn, h3⟩, if_pos ⟨hv, by omega⟩]
/-- A rune that was read, read again whatever follows. -/
theorem dec_local (l : List UInt8) (hne : l ≠ []) (hv : ¬ ((Lib.decodeL l).1 = 65533 ∧ (Lib.decodeL l).2 = 1)) (x : List UInt8) : Lib.decodeL (l.take (Lib.decodeL l).2 ++ x) = Lib.decodeL l := by
  have hl : 0 < l.length := List.length_pos_iff.2 hne
  rw [Lib.decodeL_N l] at hv ⊢
  rcases Lib.decodeN_shape l.length (l.getD 0 0).toNat (l.getD 1 0).toNat (l.getD 2 0).toNat (l.getD 3 0).toNat with ⟨c, e⟩ | ⟨c1, c2, c3, cv, e⟩ | ⟨c1, c2, c3, c4, cv, cs, e⟩ | ⟨c1, c2, c3, c4, c5, cv, cw, e⟩ | e
  · rw [e]; dsimp only
    rw [Lib.takeA l hl, Lib.decodeL_N]
    simp only [List.cons_append, List.nil_append, List.getD_cons_zero]
    exact Lib.decodeN_ascii _ _ _ _ _ c
  · rw [e]; dsimp only
    rw [Lib.takeB l c2, Lib.decodeL_N]
    simp only [List.cons_append, List.nil_append, List.getD_cons_zero, List.getD_cons_succ]
    exact sh2 _ _ _ _ _ c1 (by simp) c3 cv
  · rw [e]; dsimp only
    rw [Lib.takeC l c2, Lib.decodeL_N]
    simp only [List.cons_append, List.nil_append, List.getD_cons_zero, List.getD_cons_succ]
    exact sh3 _ _ _ _ _ c1 (by simp) c3 c4 cv cs
  · rw [e]; dsimp only
    rw [Lib.takeD l c2, Lib.decodeL_N]
    simp only [List.cons_append, List.nil_append, List.getD_cons_zero, List.getD_cons_succ]
    exact sh4 _ _ _ _ _ c1 (by simp) c3 c4 c5 cv cw
  · exact absurd ⟨by rw [e], by rw [e]⟩ hv
theorem tok_local (t : Tok) (x y : List UInt8) (hne : t.2 ≠ []) (hs : t.1 ≠ none) (h : headTok (t.2 ++ x) = t) : headTok (t.2 ++ y) = t := by
  have hne' : t.2 ++ x ≠ [] := by simp [hne]
  have hw := headTok_width t x hne' h
  have hv : ¬ ((Lib.decodeL (t.2 ++ x)).1 = 65533 ∧ (Lib.decodeL (t.2 ++ x)).2 = 1) := by
    intro hc
    apply hs
    have := congrArg (·.1) h
    simp only [headTok, if_pos hc] at this
    exact this.symm
  have hd := dec_local _ hne' hv y
  rw [hw, List.take_left] at hd
  unfold headTok at h ⊢
  rw [hd]
  refine Eq.trans ?_ h
  rw [hw]; simp
end Go.Proofs.Ytlanplknendmaaa

namespace Go.Proofs.Ytlanplknendmaaa
open Go
set_option linter.unusedSimpArgs false
set_option linter.unusedVariables false

def validRune (r : Nat) : Prop := r < 55296 ∨ (57344 ≤ r ∧ r ≤ 1114111)
theorem u8z (z : Nat) (h : z < 256) : ((z : Int).toNat.toUInt8).toNat = z := by
  simp [Nat.toUInt8]; omega
/-- A rune's bytes, read again. -/
theorem dec_enc (r : Nat) (h : validRune r) (x : List UInt8) : Lib.decodeL (Lib.encodeRune (r : Int) ++ x) = (r, (Lib.encodeRune (r : Int)).length) := by
  unfold validRune at h
  rw [Lib.decodeL_N]
  unfold Lib.encodeRune
  by_cases h1 : r ≤ 127
  · rw [Lib.encodeRuneZ_one (by omega) (by omega)]
    simp only [List.map_cons, List.map_nil, List.cons_append, List.nil_append, List.getD_cons_zero]
    rw [u8z r (by omega), Lib.decodeN_ascii _ _ _ _ _ (by omega)]; rfl
  · by_cases h2 : r ≤ 2047
    · rw [Lib.encodeRuneZ_two (by omega) (by omega)]
      simp only [List.map_cons, List.map_nil, List.cons_append, List.nil_append, List.getD_cons_zero, List.getD_cons_succ]
      rw [show (192 : Int) + (r : Int) / 64 = ((192 + r / 64 : Nat) : Int) by omega, show (128 : Int) + (r : Int) % 64 = ((128 + r % 64 : Nat) : Int) by omega, u8z _ (by omega), u8z _ (by omega)]
      rw [sh2 _ _ _ _ _ (by omega) (by simp) (by omega) (by omega)]
      refine Prod.ext ?_ rfl
      show (192 + r / 64) % 32 * 64 + (128 + r % 64) % 64 = r
      omega
    · by_cases h3 : r ≤ 65535
      · rw [Lib.encodeRuneZ_three (by omega)]
        simp only [List.map_cons, List.map_nil, List.cons_append, List.nil_append, List.getD_cons_zero, List.getD_cons_succ]
        rw [show (224 : Int) + (r : Int) / 4096 = ((224 + r / 4096 : Nat) : Int) by omega, show (128 : Int) + (r : Int) / 64 % 64 = ((128 + r / 64 % 64 : Nat) : Int) by omega, show (128 : Int) + (r : Int) % 64 = ((128 + r % 64 : Nat) : Int) by omega, u8z _ (by omega), u8z _ (by omega), u8z _ (by omega)]
        rw [sh3 _ _ _ _ _ (by omega) (by simp) (by omega) (by omega) (by omega) (by omega)]
        refine Prod.ext ?_ rfl
        show (224 + r / 4096) % 16 * 4096 + (128 + r / 64 % 64) % 64 * 64 + (128 + r % 64) % 64 = r
        omega
      · rw [Lib.encodeRuneZ_four (by omega) (by omega)]
        simp only [List.map_cons, List.map_nil, List.cons_append, List.nil_append, List.getD_cons_zero, List.getD_cons_succ]
        rw [show (240 : Int) + (r : Int) / 262144 = ((240 + r / 262144 : Nat) : Int) by omega, show (128 : Int) + (r : Int) / 4096 % 64 = ((128 + r / 4096 % 64 : Nat) : Int) by omega, show (128 : Int) + (r : Int) / 64 % 64 = ((128 + r / 64 % 64 : Nat) : Int) by omega, show (128 : Int) + (r : Int) % 64 = ((128 + r % 64 : Nat) : Int) by omega, u8z _ (by omega), u8z _ (by omega), u8z _ (by omega), u8z _ (by omega)]
        rw [sh4 _ _ _ _ _ (by omega) (by simp) (by omega) (by omega) (by omega) (by omega) (by omega)]
        refine Prod.ext ?_ rfl
        show (240 + r / 262144) % 8 * 262144 + (128 + r / 4096 % 64) % 64 * 4096 + (128 + r / 64 % 64) % 64 * 64 + (128 + r % 64) % 64 = r
        omega
theorem enc_ne (r : Int) : Lib.encodeRune r ≠ [] := by
  unfold Lib.encodeRune Lib.encodeRuneZ
  repeat' split
  all_goals simp
theorem tok_enc (r : Nat) (h : validRune r) (x : List UInt8) : headTok (Lib.encodeRune (r : Int) ++ x) = (some r, Lib.encodeRune (r : Int)) := by
  unfold headTok
  rw [dec_enc r h x]
  have hc : ¬ (r = 65533 ∧ (Lib.encodeRune (r : Int)).length = 1) := by
    rintro ⟨rfl, h2⟩
    revert h2; decide
  rw [if_neg hc]; simp
/-- A rune that was read is one. -/
theorem dec_valid (l : List UInt8) (hne : l ≠ []) (hv : ¬ ((Lib.decodeL l).1 = 65533 ∧ (Lib.decodeL l).2 = 1)) : validRune (Lib.decodeL l).1 := by
  unfold validRune
  rw [Lib.decodeL_N l] at hv ⊢
  have k0 := (l.getD 0 0).toNat_lt
  have k1 := (l.getD 1 0).toNat_lt
  rcases Lib.decodeN_shape l.length (l.getD 0 0).toNat (l.getD 1 0).toNat (l.getD 2 0).toNat (l.getD 3 0).toNat with ⟨c, e⟩ | ⟨c1, c2, c3, cv, e⟩ | ⟨c1, c2, c3, c4, cv, cs, e⟩ | ⟨c1, c2, c3, c4, c5, cv, cw, e⟩ | e
  · rw [e]; dsimp only; omega
  · rw [e]; dsimp only; omega
  · rw [e]; dsimp only; omega
  · rw [e]; dsimp only; omega
  · exact absurd ⟨by rw [e], by rw [e]⟩ hv
/-! Strays -/
def cont (b : UInt8) : Bool := b.toNat / 64 == 2
def lead (l : List UInt8) : List UInt8 := l.takeWhile cont
theorem lead_cons {x y : List UInt8} {b : UInt8} (h : lead x = lead (b :: y)) (hb : b.toNat / 64 = 2) : ∃ x', x = b :: x' ∧ lead x' = lead y := by
  have hc : cont b = true := by simp [cont, hb]
  unfold lead at h
  rw [List.takeWhile_cons, if_pos hc] at h
  cases x with
  | nil => simp at h
  | cons c x =>
    rw [List.takeWhile_cons] at h
    split at h
    · injection h with h1 h2
      subst h1
      exact ⟨x, rfl, h2⟩
    · cases h
theorem getD1 (b : UInt8) (y : List UInt8) (h : 1 < (b :: y).length) : ∃ c y', y = c :: y' := by
  cases y with
  | nil => simp at h
  | cons c y' => exact ⟨c, y', rfl⟩
/-- A stray is one by the continuing bytes behind it alone. -/
theorem stray_ctx (b : UInt8) (x y : List UInt8) (h : Lib.decodeL (b :: x) = (65533, 1)) (hl : lead x = lead y) : Lib.decodeL (b :: y) = (65533, 1) := by
  rw [Lib.decodeL_N (b :: y)]
  rcases Lib.decodeN_shape (b :: y).length ((b :: y).getD 0 0).toNat ((b :: y).getD 1 0).toNat ((b :: y).getD 2 0).toNat ((b :: y).getD 3 0).toNat with ⟨c, e⟩ | ⟨c1, c2, c3, cv, e⟩ | ⟨c1, c2, c3, c4, cv, cs, e⟩ | ⟨c1, c2, c3, c4, c5, cv, cw, e⟩ | e
  · exfalso
    rw [Lib.decodeL_N, Lib.decodeN_ascii _ _ _ _ _ (by simpa using c)] at h
    have := b.toNat_lt
    simp at h
    omega
  · exfalso
    obtain ⟨y0, y', rfl⟩ := getD1 b y c2
    simp only [List.getD_cons_zero, List.getD_cons_succ] at c1 c3 cv
    obtain ⟨x', rfl, _⟩ := lead_cons hl c3
    rw [Lib.decodeL_N, sh2 _ _ _ _ _ (by simpa using c1) (by simp) (by simpa using c3) (by simpa using cv)] at h
    simp at h
  · exfalso
    obtain ⟨y0, y', rfl⟩ := getD1 b y (by omega)
    obtain ⟨y1, y'', rfl⟩ := getD1 y0 y' (by simp at c2 ⊢; omega)
    simp only [List.getD_cons_zero, List.getD_cons_succ] at c1 c3 c4 cv cs
    obtain ⟨x', rfl, hx⟩ := lead_cons hl c3
    obtain ⟨x'', rfl, _⟩ := lead_cons hx c4
    rw [Lib.decodeL_N, sh3 _ _ _ _ _ (by simpa using c1) (by simp) (by simpa using c3) (by simpa using c4) (by simpa using cv) (by simpa using cs)] at h
    simp at h
  · exfalso
    obtain ⟨y0, y', rfl⟩ := getD1 b y (by omega)
    obtain ⟨y1, y'', rfl⟩ := getD1 y0 y' (by simp at c2 ⊢; omega)
    obtain ⟨y2, y3, rfl⟩ := getD1 y1 y'' (by simp at c2 ⊢; omega)
    simp only [List.getD_cons_zero, List.getD_cons_succ] at c1 c3 c4 c5 cv cw
    obtain ⟨x', rfl, hx⟩ := lead_cons hl c3
    obtain ⟨x'', rfl, hx2⟩ := lead_cons hx c4
    obtain ⟨x3, rfl, _⟩ := lead_cons hx2 c5
    rw [Lib.decodeL_N, sh4 _ _ _ _ _ (by simpa using c1) (by simp) (by simpa using c3) (by simpa using c4) (by simpa using c5) (by simpa using cv) (by simpa using cw)] at h
    simp at h
  · exact e
/-- A rune's first byte is no continuing one. -/
theorem rune_lead (t : Tok) (x y : List UInt8) (hne : t.2 ≠ []) (hs : t.1 ≠ none) (h : headTok (t.2 ++ x) = t) : lead (t.2 ++ y) = [] := by
  obtain ⟨o, bs⟩ := t
  cases bs with
  | nil => exact absurd rfl hne
  | cons b bs =>
    show (b :: (bs ++ y)).takeWhile cont = []
    rw [List.takeWhile_cons]
    split
    · rename_i hc
      exfalso
      have hb : b.toNat / 64 = 2 := by simpa [cont] using hc
      have hd : Lib.decodeL (b :: bs ++ x) = (65533, 1) := by
        rw [Lib.decodeL_N]; exact Lib.decodeN_cont _ _ _ _ _ (by simpa using hb)
      apply hs
      have h2 := congrArg (·.1) h
      have hd' : Lib.decodeL ((o, b :: bs).2 ++ x) = (65533, 1) := hd
      simp only [headTok, hd', and_self, if_true] at h2
      exact h2.symm
    · rfl
theorem stray_tok (b : UInt8) (x : List UInt8) : headTok ([b] ++ x) = (none, [b]) ↔ Lib.decodeL (b :: x) = (65533, 1) := by
  constructor
  · intro h
    have h1 := congrArg (·.1) h
    simp only [headTok, List.cons_append, List.nil_append] at h1
    split at h1
    · rename_i hc; exact Prod.ext hc.1 hc.2
    · cases h1
  · intro h
    unfold headTok
    have h' : Lib.decodeL ([b] ++ x) = (65533, 1) := h
    rw [h']; simp
theorem tok_none (t : Tok) (x : List UInt8) (hne : t.2 ≠ []) (h : headTok (t.2 ++ x) = t) (hs : t.1 = none) : ∃ b, t = (none, [b]) := by
  have hw := headTok_width t x (by simp [hne]) h
  have h1 := congrArg (·.1) h
  rw [hs] at h1
  simp only [headTok] at h1
  split at h1
  · rename_i hc
    rw [hc.2] at hw
    obtain ⟨o, bs⟩ := t
    match bs, hw with
    | [b], _ => exact ⟨b, by simp at hs; rw [hs]⟩
  · cases h1
end Go.Proofs.Ytlanplknendmaaa

namespace Go.Proofs
open Go.Shelf
namespace Ytlanplknendmaaa
open Go.RowKit
set_option linter.unusedSimpArgs false
set_option linter.unusedVariables false
/-- What stands for it in a text without capitals. -/
def foldItem (l : List UInt8) (x : Nat × Nat) : List UInt8 := if pStray l x.1 x.2 then [l.getD x.1 0] else if pCapital x.2 then Lib.encodeRune ((x.2 : Int) + 32) else Lib.encodeRune (x.2 : Int)
def pFold (l : List UInt8) : List UInt8 := (items l).flatMap (foldItem l)
theorem enc_le (r : Int) : (Lib.encodeRune r).length ≤ 4 := by
  have := Lib.runeCells_le r
  rw [Lib.runeCells_length] at this; exact this.2

end Ytlanplknendmaaa
end Go.Proofs

namespace Go.Proofs.Ytlanplknendmaaa
open Go
set_option linter.unusedSimpArgs false
set_option linter.unusedVariables false

theorem enc_fffd : Lib.encodeRune ((65533 : Nat) : Int) = [239, 191, 189] := by decide
theorem pStray_iff (l : List UInt8) (pos : Nat) (hne : l.drop pos ≠ []) : pStray l pos (Lib.decodeL (l.drop pos)).1 = true ↔ ((Lib.decodeL (l.drop pos)).1 = 65533 ∧ (Lib.decodeL (l.drop pos)).2 = 1) := by
  unfold pStray
  generalize hm : l.drop pos = m at *
  simp only [Bool.and_eq_true, beq_iff_eq, Bool.not_eq_true', Lib.hasPrefix, List.isPrefixOf_iff_prefix, ← Bool.not_eq_true]
  constructor
  · rintro ⟨h1, h2⟩
    refine ⟨h1, ?_⟩
    by_cases hw : (Lib.decodeL m).2 = 1
    · exact hw
    · exfalso
      have he := Lib.encode_decode m hne (fun hc => hw hc.2)
      rw [h1, enc_fffd] at he
      exact h2 ⟨m.drop (Lib.decodeL m).2, by rw [he]; exact List.take_append_drop _ _⟩
  · rintro ⟨h1, h2⟩
    refine ⟨h1, ?_⟩
    rintro ⟨t, ht⟩
    have hd := dec_enc 65533 (by unfold validRune; omega) t
    rw [enc_fffd, ht] at hd
    rw [hd] at h2
    cases h2
/-- What a range hands out, as a rune or a stray. -/
def tokOf (l : List UInt8) (x : Nat × Nat) : Tok := (if pStray l x.1 x.2 then none else some x.2, (l.drop x.1).take (Lib.decodeL (l.drop x.1)).2)
theorem itemsFrom_tok (l : List UInt8) : ∀ (fuel pos : Nat), (itemsFrom (str l) fuel pos).map (tokOf l) = tkF fuel (l.drop pos)
  | 0, pos => rfl
  | f + 1, pos => by
    unfold itemsFrom tkF
    by_cases hp : pos < (str l).size
    · have hne : l.drop pos ≠ [] := by rw [str_size] at hp; simp; omega
      have hd : Lib.decodeL (l.drop pos) = Utf8.decode (str l) pos := by rw [← Lib.decodeL_drop, str_toList]
      rw [if_pos hp, if_neg hne, List.map_cons, itemsFrom_tok l f, ← hd, List.drop_drop]
      congr 1
      unfold tokOf headTok
      simp only
      congr 1
      by_cases hc : (Lib.decodeL (l.drop pos)).1 = 65533 ∧ (Lib.decodeL (l.drop pos)).2 = 1
      · rw [if_pos hc, if_pos ((pStray_iff l pos hne).2 hc)]
      · rw [if_neg hc, if_neg (fun h => hc ((pStray_iff l pos hne).1 h))]
    · have hn : l.drop pos = [] := by rw [str_size] at hp; simp; omega
      rw [if_neg hp, if_pos hn]; rfl
theorem items_tok (l : List UInt8) : (items l).map (tokOf l) = tk l := by
  unfold items tk
  rw [itemsFrom_tok]; simp
theorem itemsFrom_mem (l : List UInt8) : ∀ (fuel pos : Nat), ∀ x ∈ itemsFrom (str l) fuel pos, x.1 < l.length ∧ x.2 = (Lib.decodeL (l.drop x.1)).1
  | 0, pos, x, h => by cases h
  | f + 1, pos, x, h => by
    unfold itemsFrom at h
    split at h
    · rename_i hp
      rcases List.mem_cons.1 h with rfl | h
      · refine ⟨by rw [str_size] at hp; exact hp, ?_⟩
        show (Utf8.decode (str l) pos).1 = _
        rw [← Lib.decodeL_drop, str_toList]
      · exact itemsFrom_mem l f _ x h
    · cases h
theorem items_mem (l : List UInt8) (x : Nat × Nat) (h : x ∈ items l) : x.1 < l.length ∧ x.2 = (Lib.decodeL (l.drop x.1)).1 := itemsFrom_mem l _ _ x h

def foldTok (t : Tok) : Tok := match t with
  | (none, bs) => (none, bs)
  | (some r, bs) => if pCapital r then (some (r + 32), Lib.encodeRune ((r : Int) + 32)) else (some r, bs)
theorem foldItem_tok (l : List UInt8) (x : Nat × Nat) (h : x ∈ items l) : foldItem l x = (foldTok (tokOf l x)).2 := by
  obtain ⟨h1, h2⟩ := items_mem l x h
  have hne : l.drop x.1 ≠ [] := by simp; omega
  unfold foldItem tokOf foldTok
  by_cases hs : pStray l x.1 x.2 = true
  · simp only [if_pos hs]
    rw [h2] at hs
    have := (pStray_iff l x.1 hne).1 hs
    rw [this.2, List.drop_eq_getElem_cons h1, List.take_succ_cons, List.take_zero, List.getD_eq_getElem?_getD, List.getElem?_eq_getElem h1]; rfl
  · simp only [if_neg hs]
    by_cases hc : pCapital x.2 = true
    · simp only [if_pos hc]
    · simp only [if_neg hc]
      rw [h2] at hs ⊢
      exact Lib.encode_decode _ hne (fun hh => hs ((pStray_iff l x.1 hne).2 hh))
theorem pFold_tok (l : List UInt8) : pFold l = flat ((tk l).map foldTok) := by
  unfold pFold flat
  rw [← items_tok, List.map_map, List.flatMap_def, List.flatMap_def, List.map_map]
  congr 1
  apply List.map_congr_left
  intro x hx
  exact foldItem_tok l x hx
theorem pStrays_tok (l : List UInt8) : pStrays l = ((tk l).filter fun t => t.1.isNone).length := by
  unfold pStrays
  rw [← items_tok, List.filter_map, List.length_map]
  congr 1
  apply List.filter_congr
  intro x hx
  simp only [Function.comp_apply, tokOf]
  cases pStray l x.1 x.2 <;> simp
theorem pRunes_tok (l : List UInt8) : pRunes l = ((tk l).filter fun t => t.1.isSome).length := by
  unfold pRunes
  rw [← items_tok, List.filter_map, List.length_map]
  congr 1
  apply List.filter_congr
  intro x hx
  simp only [Function.comp_apply, tokOf]
  cases pStray l x.1 x.2 <;> simp
def nameTok (i : Nat) (t : Tok) : Bool := match t.1 with
  | none => false
  | some r => nameRune i r
def nameToks : Nat → List Tok → Bool
  | _, [] => true
  | i, t :: ts => nameTok i t && nameToks (i + 1) ts
theorem nameFrom_tok (l : List UInt8) : ∀ (xs : List (Nat × Nat)) (i : Nat), (∀ x ∈ xs, x ∈ items l) → nameFrom i xs = nameToks i (xs.map (tokOf l))
  | [], i, _ => rfl
  | x :: xs, i, h => by
    unfold nameFrom
    rw [List.map_cons]
    unfold nameToks
    rw [nameFrom_tok l xs (i + 1) (fun y hy => h y (by simp [hy]))]
    congr 1
    unfold nameTok tokOf
    by_cases hs : pStray l x.1 x.2 = true
    · simp only [if_pos hs]
      have : x.2 = 65533 := by
        unfold pStray at hs
        simp only [Bool.and_eq_true, beq_iff_eq] at hs
        exact hs.1
      rw [this]; simp [nameRune, pSmall, pDigit]
    · simp only [if_neg hs]
theorem pRight_tok (l : List UInt8) : pRight l = (nameToks 0 (tk l) && (decide (1 ≤ (tk l).length) && decide ((tk l).length ≤ 12))) := by
  unfold pRight
  rw [nameFrom_tok l _ 0 (fun _ h => h), items_tok, show (items l).length = (tk l).length by rw [← items_tok, List.length_map]]
def sayTok (t : Tok) : Bool := match t.1 with
  | none => false
  | some r => !decide (r < 32) && !(r == 127)
theorem pSays_tok (l : List UInt8) : pSays l = ((tk l).all sayTok && decide ((tk l).length ≤ 64)) := by
  unfold pSays
  rw [show (items l).length = (tk l).length by rw [← items_tok, List.length_map], ← items_tok, List.all_map]
  congr 2
  funext x
  simp only [Function.comp_apply, sayRune, sayTok, tokOf]
  cases pStray l x.1 x.2 <;> simp
theorem cap_valid (r : Nat) (h : pCapital r = true) : validRune (r + 32) ∧ pCapital (r + 32) = false := by
  simp [pCapital, validRune] at *
  omega
theorem enc_cast (r : Nat) : Lib.encodeRune ((r : Int) + 32) = Lib.encodeRune ((r + 32 : Nat) : Int) := by simp
theorem good_fold : ∀ ts : List Tok, Good ts → Good (ts.map foldTok) ∧ lead (flat (ts.map foldTok)) = lead (flat ts)
  | [], _ => ⟨trivial, rfl⟩
  | t :: ts, ⟨h1, h2, h3⟩ => by
    obtain ⟨g, e⟩ := good_fold ts h3
    rw [List.map_cons, flat_cons, flat_cons]
    by_cases hs : t.1 = none
    · obtain ⟨b, rfl⟩ := tok_none t _ h1 h2 hs
      have hd := (stray_tok b _).1 h2
      refine ⟨⟨by simp [foldTok], ?_, g⟩, ?_⟩
      · exact (stray_tok b _).2 (stray_ctx b _ _ hd e.symm)
      · show (b :: flat _).takeWhile cont = (b :: flat _).takeWhile cont
        rw [List.takeWhile_cons, List.takeWhile_cons]
        split
        · congr 1
        · rfl
    · obtain ⟨o, bs⟩ := t
      cases o with
      | none => exact absurd rfl hs
      | some r =>
        by_cases hc : pCapital r = true
        · have ht : foldTok (some r, bs) = (some (r + 32), Lib.encodeRune ((r + 32 : Nat) : Int)) := by simp [foldTok, hc]
          have hv := (cap_valid r hc).1
          have hh := fun x => tok_enc (r + 32) hv x
          have hE := enc_ne ((r + 32 : Nat) : Int)
          rw [ht]
          clear ht hv hc
          generalize Lib.encodeRune ((r + 32 : Nat) : Int) = E at *
          generalize r + 32 = r2 at *
          refine ⟨⟨hE, hh _, g⟩, ?_⟩
          rw [rune_lead (some r, bs) _ _ h1 (by simp) h2, rune_lead (some r2, E) [] _ hE (by simp) (hh [])]
        · have ht : foldTok (some r, bs) = (some r, bs) := by simp [foldTok, hc]
          rw [ht]
          refine ⟨⟨h1, tok_local _ _ _ h1 (by simp) h2, g⟩, ?_⟩
          rw [rune_lead (some r, bs) _ _ h1 (by simp) h2, rune_lead (some r, bs) _ _ h1 (by simp) h2]
theorem tk_fold (l : List UInt8) : tk (pFold l) = (tk l).map foldTok := by
  rw [pFold_tok]
  exact tk_flat _ (good_fold _ (good_of_tk l)).1
theorem foldTok_twice (t : Tok) : foldTok (foldTok t) = foldTok t := by
  obtain ⟨o, bs⟩ := t
  cases o with
  | none => rfl
  | some r =>
    by_cases hc : pCapital r = true
    · have := (cap_valid r hc).2
      simp [foldTok, hc, this]
    · simp [foldTok, hc]
/-- A text that is folded twice is folded once. -/
theorem pFold_twice (l : List UInt8) : pFold (pFold l) = pFold l := by
  rw [pFold_tok (pFold l), tk_fold, List.map_map, pFold_tok l]
  congr 1
  apply List.map_congr_left
  intro t _
  exact foldTok_twice t
theorem name_toks : ∀ (ts : List Tok) (i : Nat), nameToks i ts = true → ∀ t ∈ ts, ∃ r, t.1 = some r ∧ (pSmall r = true ∨ pDigit r = true)
  | [], _, _, t, ht => by cases ht
  | t :: ts, i, h, x, hx => by
    unfold nameToks at h
    rw [Bool.and_eq_true] at h
    rcases List.mem_cons.1 hx with rfl | hx
    · have h1 := h.1
      unfold nameTok at h1
      split at h1
      · cases h1
      · rename_i r hr
        refine ⟨r, hr, ?_⟩
        simp only [nameRune, Bool.or_eq_true, Bool.and_eq_true] at h1
        rcases h1 with h1 | h1
        · exact .inl h1
        · exact .inr h1.2
    · exact name_toks ts (i + 1) h.2 x hx
theorem small_facts (r : Nat) (h : pSmall r = true ∨ pDigit r = true) : pCapital r = false ∧ 48 ≤ r ∧ r ≠ 127 ∧ r ≤ 969 := by
  simp [pSmall, pDigit, pCapital] at *
  omega
theorem right_parts (l : List UInt8) (h : pRight l = true) : nameToks 0 (tk l) = true ∧ 1 ≤ (tk l).length ∧ (tk l).length ≤ 12 := by
  rw [pRight_tok] at h
  simpa [Bool.and_eq_true] using h
/-- A name is as it is without capitals. -/
theorem right_fold (l : List UInt8) (h : pRight l = true) : pFold l = l := by
  obtain ⟨h1, _, _⟩ := right_parts l h
  have hn := name_toks _ _ h1
  rw [pFold_tok]
  have e : (tk l).map foldTok = tk l := by
    rw [List.map_congr_left (g := id), List.map_id]
    intro t ht
    obtain ⟨r, hr, hs⟩ := hn t ht
    have hf := (small_facts r hs).1
    obtain ⟨o, bs⟩ := t
    simp only at hr
    subst hr
    simp [foldTok, hf]
  rw [e, flat_of_tk]
theorem right_says (l : List UInt8) (h : pRight l = true) : pSays l = true := by
  obtain ⟨h1, _, h3⟩ := right_parts l h
  have hn := name_toks _ _ h1
  rw [pSays_tok, Bool.and_eq_true]
  refine ⟨List.all_eq_true.2 fun t ht => ?_, by simp; omega⟩
  obtain ⟨r, hr, hs⟩ := hn t ht
  have hf := small_facts r hs
  unfold sayTok
  rw [hr]
  simp
  omega
theorem right_ne (l : List UInt8) (h : pRight l = true) : 1 ≤ l.length := by
  obtain ⟨_, h2, _⟩ := right_parts l h
  cases l with
  | nil => rw [tk_nil] at h2; simp at h2
  | cons b l => simp
theorem name_take : ∀ (ts : List Tok) (i j : Nat), nameToks i ts = true → nameToks i (ts.take j) = true
  | [], i, j, _ => by simp [nameToks]
  | t :: ts, i, 0, _ => by simp [nameToks]
  | t :: ts, i, j + 1, h => by
    unfold nameToks at h
    rw [Bool.and_eq_true] at h
    rw [List.take_succ_cons]
    unfold nameToks
    rw [h.1, name_take ts (i + 1) j h.2]; rfl
theorem enc_len2 (r : Nat) (h : r ≤ 969) : (Lib.encodeRune (r : Int)).length ≤ 2 := by
  unfold Lib.encodeRune
  by_cases h1 : r ≤ 127
  · rw [Lib.encodeRuneZ_one (by omega) (by omega)]; simp
  · rw [Lib.encodeRuneZ_two (by omega) (by omega)]; simp
/-- A name that was cut is one, or a stray is left of a rune. -/
theorem cut_name : ∀ (ts : List Tok) (i k : Nat), Good ts → nameToks i ts = true → (∃ j, tk ((flat ts).take k) = ts.take j ∧ (0 < k → ts ≠ [] → 0 < j)) ∨ ∃ t ∈ tk ((flat ts).take k), t.1 = none
  | [], i, k, _, _ => by left; exact ⟨0, by simp [tk_nil], fun _ h => absurd rfl h⟩
  | t :: ts, i, k, ⟨h1, h2, h3⟩, hn => by
    obtain ⟨r, hr, hs⟩ := name_toks _ _ hn t (by simp)
    have hr969 := (small_facts r hs).2.2.2
    have hsn : t.1 ≠ none := by rw [hr]; simp
    have hne : t.2 ++ flat ts ≠ [] := by simp [h1]
    have hw := headTok_width t _ hne h2
    have hnv : ¬ ((Lib.decodeL (t.2 ++ flat ts)).1 = 65533 ∧ (Lib.decodeL (t.2 ++ flat ts)).2 = 1) := by
      intro hc
      apply hsn
      have := congrArg (·.1) h2
      simp only [headTok, if_pos hc] at this
      exact this.symm
    have hdr : (Lib.decodeL (t.2 ++ flat ts)).1 = r := by
      have := congrArg (·.1) h2
      simp only [headTok, if_neg hnv] at this
      rw [hr] at this
      exact Option.some.inj this
    have hen := Lib.encode_decode _ hne hnv
    rw [hdr, hw, List.take_left] at hen
    have hl2 := enc_len2 r hr969
    rw [hen] at hl2
    rw [flat_cons]
    by_cases hk : t.2.length ≤ k
    · have hx : (t.2 ++ flat ts).take k = t.2 ++ (flat ts).take (k - t.2.length) := by
        rw [List.take_append, List.take_of_length_le hk]
      have hh := tok_local t _ ((flat ts).take (k - t.2.length)) h1 hsn h2
      have hne2 : t.2 ++ (flat ts).take (k - t.2.length) ≠ [] := by simp [h1]
      have hw2 := headTok_width t _ hne2 hh
      rw [hx, tk_cons _ hne2, hh, hw2, List.drop_left]
      have hn2 : nameToks (i + 1) ts = true := by
        unfold nameToks at hn
        rw [Bool.and_eq_true] at hn
        exact hn.2
      rcases cut_name ts (i + 1) (k - t.2.length) h3 hn2 with ⟨j, hj, _⟩ | ⟨s, hs1, hs2⟩
      · left; exact ⟨j + 1, by rw [hj, List.take_succ_cons], fun _ _ => by omega⟩
      · right; exact ⟨s, by simp [hs1], hs2⟩
    · by_cases hk0 : k = 0
      · left; exact ⟨0, by simp [hk0, tk_nil], fun h => by omega⟩
      · right
        have hlen : t.2.length = 2 := by omega
        obtain ⟨o, bs⟩ := t
        match bs, hlen with
        | [b0, b1], _ =>
          have hk1 : k = 1 := by simp at hk; omega
          subst hk1
          have hb : 128 ≤ b0.toNat := by
            by_cases hb : b0.toNat < 128
            · exfalso
              have hd : Lib.decodeL ([b0, b1] ++ flat ts) = (b0.toNat, 1) := by
                rw [Lib.decodeL_N]; exact Lib.decodeN_ascii _ _ _ _ _ (by simpa using hb)
              have hw' : (Lib.decodeL ([b0, b1] ++ flat ts)).2 = 2 := hw
              rw [hd] at hw'; cases hw'
            · omega
          have hd : Lib.decodeL [b0] = (65533, 1) := by
            rw [Lib.decodeL_N]; exact Lib.decodeN_alone _ _ _ _ _ (by simpa using hb) (.inl (by simp))
          refine ⟨headTok [b0], ?_, ?_⟩
          · show headTok [b0] ∈ tk [b0]
            rw [tk_cons [b0] (by simp)]; simp
          · simp [headTok, hd]
theorem right_cut (l : List UInt8) (h : pRight l = true) (k : Nat) (hk : 1 ≤ k) : 0 < pStrays (l.take k) ∨ pRight (l.take k) = true := by
  obtain ⟨h1, h2, h3⟩ := right_parts l h
  have hc := cut_name (tk l) 0 k (good_of_tk l) h1
  rw [flat_of_tk] at hc
  rcases hc with ⟨j, hj, hj0⟩ | ⟨t, ht, hn⟩
  · right
    have hne : tk l ≠ [] := by intro h0; rw [h0] at h2; simp at h2
    have hjp := hj0 (by omega) hne
    rw [pRight_tok, hj, name_take _ _ _ h1]
    simp only [Bool.true_and, Bool.and_eq_true, decide_eq_true_eq, List.length_take]
    omega
  · left
    rw [pStrays_tok]
    exact List.length_pos_iff.2 (List.ne_nil_of_mem (List.mem_filter.2 ⟨ht, by simp [hn]⟩))
theorem good_len : ∀ ts : List Tok, Good ts → ts.length ≤ (flat ts).length
  | [], _ => by simp
  | t :: ts, ⟨h1, _, h3⟩ => by
    have := good_len ts h3
    have h1' : 0 < t.2.length := List.length_pos_iff.2 h1
    rw [flat_cons, List.length_append, List.length_cons]; omega
end Go.Proofs.Ytlanplknendmaaa

namespace Go.Proofs.Ytlanplknendmaaa
open Go.RowKit
set_option linter.unusedSimpArgs false
set_option linter.unusedVariables false

/-- Is the byte at a place from low to high? -/
def wi (l : List UInt8) (p lo hi : Nat) : Bool := decide (p < l.length) && (decide (lo ≤ (l.getD p 0).toNat) && decide ((l.getD p 0).toNat ≤ hi))
theorem within_calls (l : List UInt8) (hl : l.length ≤ 4611686018427387904) (p lo hi : Nat) (w : World) :
    Calls Try.prog 65 #[.string (str l), .int .i64 (p : Int), .int .u8 (lo : Int), .int .u8 (hi : Int)] w fun e w' => e = .returned (.bool (wi l p lo hi)) ∧ w' = w := by
  unfold wi
  by_cases hp : p < l.length
  · have hix := str_index l p hp
    have d0 : decide (p < l.length) = true := by simpa using hp
    generalize (l.getD p 0).toNat = c at *
    have b1 : (p : Int) < (l.length : Int) := by omega
    cases d1 : decide (lo ≤ c) <;> cases d2 : decide (c ≤ hi)
    all_goals
      go_enter Try.func65, Try.ntmps65
      go_wp2
      go_ret
      exact ⟨by simp [d0], rfl⟩
  · have d0 : decide (p < l.length) = false := by simpa using hp
    go_enter Try.func65, Try.ntmps65
    go_wp2
    go_ret
    exact ⟨by simp [d0], rfl⟩
/-- What it counts as: a rune's number; a stray's byte and 2000000. -/
def tokNum (t : Tok) : Nat := match t.1 with
  | some r => r
  | none => 2000000 + (t.2.getD 0 0).toNat
theorem tokNum_stray (m : List UInt8) (h : Lib.decodeL m = (65533, 1)) : tokNum (headTok m) = 2000000 + (m.getD 0 0).toNat := by
  unfold tokNum headTok
  rw [h]
  cases m <;> simp
theorem tokNum_rune (m : List UInt8) (r w : Nat) (h : Lib.decodeL m = (r, w)) (hw : w ≠ 1 ∨ r ≠ 65533) : tokNum (headTok m) = r := by
  unfold tokNum headTok
  rw [h]
  rw [if_neg (by simp only; omega)]
end Go.Proofs.Ytlanplknendmaaa
