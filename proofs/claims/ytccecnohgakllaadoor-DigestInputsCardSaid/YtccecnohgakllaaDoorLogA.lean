/-
  LAYER 4's awake.
-/
import Derived.Test.YtccecnohgakllaaDoorLogC
import Derived.Test.YtccecnohgakllaaDoorDigEq
import Derived.Test.YtccecnohgakllaaDoorInP
namespace Go.Proofs.YtccecnohgakllaaDoor
open Go Go.RowKit Go.Maps
set_option linter.unusedSimpArgs false
set_option linter.unusedVariables false

theorem wpList_eql_gl {P : Program} {ops : Array Oper} {rest : List Oper} {o : Oper} {a : Act} {w : World} {Q : Exit → Act → World → Prop} (hw : Region.wanted o (yielded ops a.tmps) = true) (t t' : TypeId) (x y : Operand) (ho : o.op = .binOp .eql t x y t')
    (u v : Array Value) (hx : a.eval x = .agg u) (hy : a.eval y = .agg v) (hgt : P.eqGuardType P.depth t = false) (b : Bool) (he : ∀ w, (binOp .eql t (.agg u) (.agg v)).run P w = .ok (.bool b) w)
    (h : wpList P ops Q rest (a.put o.dst (.bool b)) w) : wpList P ops Q (o :: rest) a w :=
  wpList_step fun K hK => by
    rw [if_pos hw]
    have hg : (eqGuard .eql t x y (.agg u) (.agg v)).run P w = .ok () w := run_eqGuard_agg w .eql t x y u v hgt
    unfold Oper.wp execOp
    simp only [ho, hx, hy, Sem.run_bind, hg, Result.andThen_ok, he]
    exact hK _ _ h
theorem But.below {b H : Nat} {ms : Option (Nat × Nat)} {w w1 w2 : World} (h : But b ms w1 w2) (hB : Below H w w1) (hs : H ≤ w1.heap.size) (hb : H ≤ b) (hm : ∀ m, ms = some m → H ≤ m.1 ∧ H ≤ m.2) : Below H w w2 :=
  hB.trans ⟨h.os, h.tape, h.output, h.size, fun k hk => h.block k (by omega) (by omega) (fun m e => by have := hm m e; omega)⟩
theorem dcount_one (x : Lit) : dcount [x] = 1 := rfl
theorem dcount_same (x : Lit) (hx : WideAt.IsKeyLit x) : dcount [x, x] = 1 := by
  have e : dcount [x, x] = (addKey [x] x).length := rfl
  rw [e]
  unfold addKey
  simp [WideAt.sameKey_self hx]
theorem dcount_diff (x y : Lit) (h : x ≠ y) : dcount [x, y] = 2 := by
  have e : dcount [x, y] = (addKey [x] y).length := rfl
  rw [e]
  unfold addKey
  simp [sameKey_ne h]
set_option maxHeartbeats 2000000 in
set_option maxRecDepth 100000 in
theorem dawake_of (S : List UInt8) (hS : S.length = 32) (hp : pOf 1 [] = S) (hq : pSum [[1]] = S) (w : World) (tabs : Tabs w) :
    Calls Tryd.prog 6 #[] w fun e w' => e = .returned (.bool true) ∧ Below w.heap.size w w' := by
  have K1 := hide (fun (b : Nat) (W : World) (hL : LogAt W b none []) (t : Tabs W) => ofLog_calls b none [] (by simp) 1 (by decide) [] (by simp) (by simp) none 0 W (.inl rfl) hL t)
  have K2 := hide (fun g W hs t => sum_calls [[1]] (by simp) (by simp) (some ⟨g, 0, none⟩) 1 W hs t)
  rw [hp] at K1
  rw [hq] at K2
  have heq := hide (fun W => dig_eq S S hS hS W)
  rw [decide_eq_true rfl] at heq
  have e1 : dcount (([] ++ [pInput 1 []] : List (List UInt8)).map Lit.string) = 1 := dcount_one _
  have e2 : dcount (([] ++ [pInput 1 []] : List (List UInt8)).map fun s => dKey (pSum [s])) = 1 := dcount_one _
  have K3 := hide (fun (b : Nat) (m : Nat × Nat) (W : World) (hL : LogAt W b (some m) ([] ++ [pInput 1 []])) => count_calls b m _ W hL)
  have K4 := hide (fun (b : Nat) (m : Nat × Nat) (W : World) (hL : LogAt W b (some m) ([] ++ [pInput 1 []])) => clash_calls b m _ W hL)
  rw [e1] at K3 K4
  rw [e2] at K4
  have HT := hide tabs
  generalize ([] ++ [pInput 1 []] : List (List UInt8)) = ins at *
  clear hp hq tabs e1 e2
  go_enter Tryd.func6, Tryd.ntmps6
  go_wp2_with fail
  refine (newLog_calls w).mono ?_
  rintro e w1 ⟨rfl, L1, b1, z1⟩
  have t1 := (unhide HT).below b1 (Nat.le_refl _)
  go_wp2_with fail
  refine (unhide K1 _ _ L1 t1).mono ?_
  rintro e w2 ⟨rfl, ⟨m, L2, X2⟩, B2⟩
  have b2 : Below w.heap.size w w2 := B2.below b1 b1.size (Nat.le_refl _) (fun m hm => by cases hm)
  have hm := X2.2 rfl
  have t2 := (unhide HT).below b2 (Nat.le_refl _)
  have HL2 := hide L2
  clear L1 t1 K1 X2 B2 L2
  go_wp2_with fail
  have bA := (Below.refl w2.heap.size w2).alloc (Nat.le_refl _) (.cells #[.string (str [1])] 9)
  refine (unhide K2 _ _ (strsAt_one w2 [1] _) (t2.below' bA)).mono ?_
  rintro e w3 ⟨rfl, d3⟩
  have b23 : Below w2.heap.size w2 w3 := bA.trans (d3.mono bA.size)
  have L3 := hide ((unhide HL2).below' b23)
  have b3 := b2.trans (b23.mono b2.size)
  clear d3 b23 bA t2 HL2 K2 b2
  go_wp2_with (refine wpList_eql_gl rfl 24 24 (.tmp 4) (.tmp 6) rfl _ _ rfl rfl (by kernel_rfl) true (unhide heq) ?_)
  refine (unhide K3 _ _ _ (unhide L3)).mono ?_
  rintro e w4 ⟨rfl, h4⟩
  rw [h4]
  clear h4
  go_wp2_with fail
  refine (unhide K4 _ _ _ (unhide L3)).mono ?_
  rintro e w5 ⟨rfl, d5⟩
  have b5 := b3.trans (d5.mono b3.size)
  go_wp2
  go_ret
  exact ⟨rfl, b5⟩
theorem dawake_calls (w : World) (tabs : Tabs w) : Calls Tryd.prog 6 #[] w fun e w' => e = .returned (.bool true) ∧ Below w.heap.size w w' :=
  dawake_of (pOf 1 []) (pOf_length _ _) rfl (by have : pInput 1 [] = [1] := by decide
                                                unfold pOf; rw [this]) w tabs
end Go.Proofs.YtccecnohgakllaaDoor
