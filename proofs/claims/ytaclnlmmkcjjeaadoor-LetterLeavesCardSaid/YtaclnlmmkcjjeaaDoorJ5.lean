/-
  LetterLeaves: letters of one leaf are the same, unless two inputs clash.
-/
/-
  WHAT THE ROWS OF LAYER 1 LIST GIVES THE WALKS: the two tables of package sha, read as the program's text lays them.
-/
/-
  A LETTER AS AN ARGUMENT: what a row hands the walks.
-/
import Derived.Test.YtaclnlmmkcjjeaaDoorJ1
import Derived.Test.YtaclnlmmkcjjeaaDoorJ4
import Derived.Test.YtaclnlmmkcjjeaaDoorCards
import Derived.Test.YtaclnlmmkcjjeaaDoorTie
import Derived.ProofKit
import Derived.OpenShut
import Derived.Deep.DeepHandedRow
import Derived.Lib.LaidTab
import Derived.Deep.Slices
import Derived.Lib.SmallJoins
import Derived.ChangeMaps5
namespace Go.Proofs.YtaclnlmmkcjjeaaDoor
open Go Go.RowKit
set_option linter.unusedSimpArgs false
set_option linter.unusedVariables false

theorem light_iff (x : Lt) : (if x.se.length ≤ 2000 then if x.re.length ≤ 2000 then decide (x.bo.length ≤ 2000) else false else false) = true ↔ x.se.length ≤ 2000 ∧ x.re.length ≤ 2000 ∧ x.bo.length ≤ 2000 := by
  by_cases a1 : x.se.length ≤ 2000 <;> by_cases a2 : x.re.length ≤ 2000 <;> simp [a1, a2]
theorem dig_neqL (a b : List UInt8) (ha : a.length = 32) (hb : b.length = 32) (w : World) : (binOp .neq 30 (.agg (bc a)) (.agg (bc b))).run Tryd.prog w = .ok (.bool (!decide (a = b))) w := by
  have h := dig_eq a b ha hb w
  simp only [binOp, Op.equal] at h ⊢
  revert h
  simp only [Sem.run_bind]
  cases hh : (Op.equalIn Op.maxDepth 30 (.agg (bc a)) (.agg (bc b))).run Tryd.prog w with
  | ok v w' => intro h; simp [Result.andThen_ok] at h ⊢; obtain ⟨h1, h2⟩ := h; exact ⟨by simp [h1], h2⟩
  | halt e w' => intro h; simp [Result.andThen] at h
theorem wpQuiet_neqL {P : Program} {ops : Array Oper} {C : World → Prop} {Q : Act → Prop} {a : Act} {o : Oper} {rest : List Oper} (hw : Region.wanted o (yielded ops a.tmps) = true) (t t' : TypeId) (x y : Operand) (ho : o.op = .binOp .neq t x y t')
    (u v : Array Value) (hx : a.eval x = .agg u) (hy : a.eval y = .agg v) (hgt : P.eqGuardType P.depth t = false) (b : Bool) (he : ∀ w, (binOp .neq t (.agg u) (.agg v)).run P w = .ok (.bool b) w)
    (h : wpQuiet P ops C Q rest (a.put o.dst (.bool b))) : wpQuiet P ops C Q (o :: rest) a := by
  show if _ then _ else _
  rw [if_pos hw]
  refine ⟨.bool b, fun w hC => ?_, h⟩
  have hg : (eqGuard .neq t x y (.agg u) (.agg v)).run P w = .ok () w := run_eqGuard_agg w .neq t x y u v hgt
  unfold Oper.quietAt execOp
  simp only [ho, hx, hy, Sem.run_bind, hg, Result.andThen_ok, he]
  exact ⟨rfl, rfl⟩
theorem rnoted_le (s : List UInt8) (ins : List (List UInt8)) : (rnoted s ins).length ≤ ins.length + 1 := by
  unfold rnoted; split <;> simp
theorem mem_rnoted (s : List UInt8) (ins : List (List UInt8)) : s ∈ rnoted s ins := by
  unfold rnoted; split
  · assumption
  · simp
theorem mem_rnoted_old (s t : List UInt8) (ins : List (List UInt8)) (h : t ∈ ins) : t ∈ rnoted s ins := by
  unfold rnoted; split
  · exact h
  · simp [h]
theorem RBut.to_below {S : Nat → Prop} {w w' : World} (h : RBut S w w') (N : Nat) (hS : ∀ k, S k → N ≤ k) (hN : N ≤ w.heap.size) : Below N w w' := ⟨h.os, h.tape, h.output, h.size, fun k hk => h.block k (Nat.lt_of_lt_of_le hk hN) (fun h1 => by have := hS k h1; omega)⟩
theorem leaves_clash (x y : Lt) (hx : x.ok) (hy : y.ok) (x1 : x.se.length < 4294967296) (x2 : x.re.length < 4294967296) (x3 : x.bo.length < 4294967296) (y1 : y.se.length < 4294967296) (y2 : y.re.length < 4294967296) (y3 : y.bo.length < 4294967296)
    (hs : pLSame x y = false) (he : pLeaf x = pLeaf y) (I1 I2 : List (List UInt8)) (h1 : rnoted (pInput 5 [x.bytes]) [] = I1) (h2 : rnoted (pInput 5 [y.bytes]) I1 = I2) : cnt I2 < I2.length := by
  refine cnt_lt I2 (pInput 5 [x.bytes]) (pInput 5 [y.bytes]) ?_ ?_ ?_ he
  · rw [← h2, ← h1]; exact mem_rnoted_old _ _ _ (mem_rnoted _ _)
  · rw [← h2]; exact mem_rnoted _ _
  · intro e
    have e2 : [x.bytes] = [y.bytes] := by
      unfold pInput at e
      obtain ⟨_, e3⟩ := List.append_inj e rfl
      have e4 : pText4 x.bytes = pText4 y.bytes := by simpa using e3
      have el : ∀ l : List UInt8, pText4 l = pBig l.length 4 ++ l := fun _ => rfl
      rw [el, el] at e4
      rw [(List.append_inj e4 (by rw [pBig_length, pBig_length])).2]
    have e5 : x.bytes = y.bytes := by simpa using e2
    have := (pLSame_iff x y).2 (bytes_inj x y hx hy x1 x2 x3 y1 y2 y3 e5)
    rw [hs] at this; cases this
set_option maxHeartbeats 8000000 in
set_option maxRecDepth 100000 in
theorem letterLeaves_dark (x y : Lt) (w : World) (hno : ¬ ((x.se.length ≤ 2000 ∧ x.re.length ≤ 2000 ∧ x.bo.length ≤ 2000) ∧ (y.se.length ≤ 2000 ∧ y.re.length ≤ 2000 ∧ y.bo.length ≤ 2000))) :
    Calls Tryd.prog 3 #[.agg x.cells, .agg y.cells] w fun e w' => e = .returned (.bool true) ∧ Below w.heap.size w w' := by
  have A := hide lawake_calls
  have Lx := fun W => light_calls x W
  have Ly := fun W => light_calls y W
  have hi := let_info x
  have hj := let_info y
  obtain ⟨q0, y0⟩ := al2 w (.cells x.cells 24) (.cells y.cells 24)
  have hb0 := bel2 w (.cells x.cells 24) (.cells y.cells 24)
  have z0 := (Array.getElem?_eq_some_iff.1 q0).1
  have zy0 := (Array.getElem?_eq_some_iff.1 y0).1
  rw [← light_iff x, ← light_iff y] at hno
  obtain ⟨p, hp⟩ : ∃ p, (if x.se.length ≤ 2000 then if x.re.length ≤ 2000 then decide (x.bo.length ≤ 2000) else false else false) = p := ⟨_, rfl⟩
  rw [hp] at Lx hno
  obtain ⟨p', hp'⟩ : ∃ p, (if y.se.length ≤ 2000 then if y.re.length ≤ 2000 then decide (y.bo.length ≤ 2000) else false else false) = p := ⟨_, rfl⟩
  rw [hp'] at Ly hno
  have LX := hide Lx
  have LY := hide Ly
  clear Lx Ly
  cases p with
  | false =>
    clear hno
    generalize x.cells = X at *
    generalize y.cells = Y at *
    clear hp hp'
    go_enter Tryd.func3, Tryd.ntmps3
    go_wp2_with fail
    refine (unhide A _).mono ?_
    rintro e w1 ⟨rfl, b1⟩
    have q1 := Below.at b1 z0 q0
    have y1 := Below.at b1 zy0 y0
    have hb1 := hb0.trans (b1.mono hb0.size)
    clear q0 y0 b1
    go_wp2_with (refine wpList_load_row rfl 24 (.tmp 2) rfl w.heap.size rfl 24 X (0, 0) _ q1 Tryd.underlying24 rfl hi ?_)
    refine (unhide LX _).mono ?_
    rintro e w2 ⟨rfl, b2⟩
    have q2 := Below.at b2 (Array.getElem?_eq_some_iff.1 q1).1 q1
    have y2 := Below.at b2 (Array.getElem?_eq_some_iff.1 y1).1 y1
    have hb2 := hb1.trans (b2.mono hb1.size)
    clear q1 y1 b2 hb1
    go_wp2_with fail
    refine (unhide A _).mono ?_
    rintro e w9 ⟨rfl, b9⟩
    go_wp2_with fail
    go_ret
    exact ⟨rfl, hb2.trans (b9.mono hb2.size)⟩
  | true =>
    cases p' with
    | false =>
      clear hno
      generalize x.cells = X at *
      generalize y.cells = Y at *
      clear hp hp'
      go_enter Tryd.func3, Tryd.ntmps3
      go_wp2_with fail
      refine (unhide A _).mono ?_
      rintro e w1 ⟨rfl, b1⟩
      have q1 := Below.at b1 z0 q0
      have y1 := Below.at b1 zy0 y0
      have hb1 := hb0.trans (b1.mono hb0.size)
      clear q0 y0 b1
      go_wp2_with (refine wpList_load_row rfl 24 (.tmp 2) rfl w.heap.size rfl 24 X (0, 0) _ q1 Tryd.underlying24 rfl hi ?_)
      refine (unhide LX _).mono ?_
      rintro e w2 ⟨rfl, b2⟩
      have q2 := Below.at b2 (Array.getElem?_eq_some_iff.1 q1).1 q1
      have y2 := Below.at b2 (Array.getElem?_eq_some_iff.1 y1).1 y1
      have hb2 := hb1.trans (b2.mono hb1.size)
      clear q1 y1 b2 hb1
      go_wp2_with (refine wpList_load_row_gd rfl 24 (.tmp 3) rfl (w.heap.size + 1) rfl 24 Y (0, 0) _ y2 Tryd.underlying24 rfl hj ?_)
      refine (unhide LY _).mono ?_
      rintro e w3 ⟨rfl, b3⟩
      have q3 := Below.at b3 (Array.getElem?_eq_some_iff.1 q2).1 q2
      have y3 := Below.at b3 (Array.getElem?_eq_some_iff.1 y2).1 y2
      have hb3 := hb2.trans (b3.mono hb2.size)
      clear q2 y2 b3 hb2
      go_wp2_with fail
      refine (unhide A _).mono ?_
      rintro e w9 ⟨rfl, b9⟩
      go_wp2_with fail
      go_ret
      exact ⟨rfl, hb3.trans (b9.mono hb3.size)⟩
    | true => exact absurd ⟨rfl, rfl⟩ hno
set_option maxHeartbeats 8000000 in
set_option maxRecDepth 100000 in
theorem letterLeaves_1 (x y : Lt) (ok : x.ok) (oky : y.ok) (l : x.se.length ≤ 2000 ∧ x.re.length ≤ 2000 ∧ x.bo.length ≤ 2000) (m : y.se.length ≤ 2000 ∧ y.re.length ≤ 2000 ∧ y.bo.length ≤ 2000) (w : World) (tabs : Tabs w)
    (hsame : pLSame x y = false) (hdig : decide (pLeaf x = pLeaf y) = false) :
    Calls Tryd.prog 3 #[.agg x.cells, .agg y.cells] w fun e w' => e = .returned (.bool true) ∧ Below w.heap.size w w' := by
  have A := hide lawake_calls
  have Lx := fun W => light_calls x W
  have Ly := fun W => light_calls y W
  have hi := let_info x
  have hj := let_info y
  have HT := hide tabs
  clear tabs
  obtain ⟨q0, y0⟩ := al2 w (.cells x.cells 24) (.cells y.cells 24)
  have hb0 := bel2 w (.cells x.cells 24) (.cells y.cells 24)
  have z0 := (Array.getElem?_eq_some_iff.1 q0).1
  have zy0 := (Array.getElem?_eq_some_iff.1 y0).1
  rw [(light_iff x).2 l] at Lx
  rw [(light_iff y).2 m] at Ly
  have LX := hide Lx
  have LY := hide Ly
  clear Lx Ly
  obtain ⟨l1, l2, l3⟩ := l
  obtain ⟨m1, m2, m3⟩ := m
  have CLx := hide fun W t => lleaf_calls x ok (by omega) (by omega) (by omega) W t
  have CLy := hide fun W t => lleaf_calls y oky (by omega) (by omega) (by omega) W t
  have CRx := hide fun b S ins hin W hL => lrleafQ_calls x ok (by omega) (by omega) (by omega) b S ins hin W hL
  have CRy := hide fun b S ins hin W hL => lrleafQ_calls y oky (by omega) (by omega) (by omega) b S ins hin W hL
  have CS := hide fun W => lsame_calls x y W
  have hEQ := hide fun W => dig_eq (pLeaf x) (pLeaf y) (pLeaf_length x) (pLeaf_length y) W
  have hNE := hide fun W => dig_neqL (pLeaf x) (pLeaf y) (pLeaf_length x) (pLeaf_length y) W
  rw [hdig] at hEQ hNE
  rw [hsame] at CS
  obtain ⟨I1, hI1⟩ : ∃ I, rnoted (pInput 5 [x.bytes]) [] = I := ⟨_, rfl⟩
  obtain ⟨I2, hI2⟩ : ∃ I, rnoted (pInput 5 [y.bytes]) I1 = I := ⟨_, rfl⟩
  have HC : Hid (pLSame x y = false → decide (pLeaf x = pLeaf y) = true → cnt I2 < I2.length) := hide fun h1 h2 => leaves_clash x y ok oky (by omega) (by omega) (by omega) (by omega) (by omega) (by omega) h1 (of_decide_eq_true h2) I1 I2 hI1 hI2
  rw [hsame, hdig] at HC
  have N1 : Hid (I1.length < 1000000) := hide (by rw [← hI1]; exact Nat.lt_of_le_of_lt (rnoted_le _ _) (by decide))
  have HI1 := hide hI1
  have HI2 := hide hI2
  clear hdig hsame l1 l2 l3 m1 m2 m3 hI1 hI2
  generalize pInput 5 [x.bytes] = IX at *
  generalize pInput 5 [y.bytes] = IY at *
  generalize pLeaf x = DX at *
  generalize pLeaf y = DY at *
  generalize x.cells = X at *
  generalize y.cells = Y at *
  clear ok oky
  go_enter Tryd.func3, Tryd.ntmps3
  go_wp2_with fail
  refine (unhide A _).mono ?_
  rintro e w1 ⟨rfl, b1⟩
  have q1 := Below.at b1 z0 q0
  have y1 := Below.at b1 zy0 y0
  have hb1 := hb0.trans (b1.mono hb0.size)
  clear q0 y0 b1
  go_wp2_with (refine wpList_load_row rfl 24 (.tmp 2) rfl w.heap.size rfl 24 X (0, 0) _ q1 Tryd.underlying24 rfl hi ?_)
  refine (unhide LX _).mono ?_
  rintro e w2 ⟨rfl, b2⟩
  have q2 := Below.at b2 (Array.getElem?_eq_some_iff.1 q1).1 q1
  have y2 := Below.at b2 (Array.getElem?_eq_some_iff.1 y1).1 y1
  have hb2 := hb1.trans (b2.mono hb1.size)
  clear q1 y1 b2 hb1
  go_wp2_with (refine wpList_load_row_gd rfl 24 (.tmp 3) rfl (w.heap.size + 1) rfl 24 Y (0, 0) _ y2 Tryd.underlying24 rfl hj ?_)
  refine (unhide LY _).mono ?_
  rintro e w3 ⟨rfl, b3⟩
  have q3 := Below.at b3 (Array.getElem?_eq_some_iff.1 q2).1 q2
  have y3 := Below.at b3 (Array.getElem?_eq_some_iff.1 y2).1 y2
  have hb3 := hb2.trans (b3.mono hb2.size)
  clear q2 y2 b3 hb2
  go_wp2_with fail
  refine (rnewLog_calls _).mono ?_
  rintro e w4 ⟨rfl, hL4, b4, z4⟩
  have q4 := Below.at b4 (Array.getElem?_eq_some_iff.1 q3).1 q3
  have y4 := Below.at b4 (Array.getElem?_eq_some_iff.1 y3).1 y3
  have hb4 := hb3.trans (b4.mono hb3.size)
  have zq3 := (Array.getElem?_eq_some_iff.1 q3).1
  have zy3 := (Array.getElem?_eq_some_iff.1 y3).1
  have zz4 : w3.heap.size ≤ w4.heap.size := b4.size
  obtain ⟨B, hB⟩ : ∃ B, w3.heap.size + 1 = B := ⟨_, rfl⟩
  obtain ⟨S4, hS4⟩ : ∃ S : Nat → Prop, (fun k => w3.heap.size ≤ k ∧ k < w3.heap.size + 2) = S := ⟨_, rfl⟩
  have HS4 : Hid (∀ k, S4 k → w3.heap.size ≤ k) := hide fun k h => by rw [← hS4] at h; exact h.1
  rw [hB, hS4] at hL4
  rw [hB]
  have HL4 := hide hL4
  have HB4 := hide hb4
  clear q3 y3 hb3 b4 z4 hB hS4 hL4
  go_wp2_with (refine wpList_load_row rfl 24 (.tmp 2) rfl w.heap.size rfl 24 X (0, 0) _ q4 Tryd.underlying24 rfl hi ?_)
  refine (unhide CRx B S4 [] (by simp) _ (unhide HL4)).mono ?_
  rintro e w5 ⟨rfl, S5, hL5, bu5, hs5⟩
  rw [unhide HI1] at hL5
  have q5 := (bu5.block _ (Array.getElem?_eq_some_iff.1 q4).1 (fun h => by have := unhide HS4 _ h; omega)).trans q4
  have y5 := (bu5.block _ (Array.getElem?_eq_some_iff.1 y4).1 (fun h => by have := unhide HS4 _ h; omega)).trans y4
  have HS5 : Hid (∀ k, S5 k → w3.heap.size ≤ k) := hide fun k h => (hs5 k h).elim (unhide HS4 k) (Nat.le_trans zz4)
  have hb5 := (unhide HB4).trans ((bu5.to_below w3.heap.size (unhide HS4) zz4).mono (by have := zq3; omega))
  have Z45 : w4.heap.size ≤ w5.heap.size := bu5.size
  have HL5 := hide hL5
  have HB5 := hide hb5
  clear q4 y4 hL5 bu5 hs5 hb5
  go_wp2_with (refine wpList_load_row rfl 24 (.tmp 3) rfl (w.heap.size + 1) rfl 24 Y (0, 0) _ y5 Tryd.underlying24 rfl hj ?_)
  refine (unhide CRy B S5 I1 (unhide N1) _ (unhide HL5)).mono ?_
  rintro e Z ⟨rfl, S6, hL6, bu6, hs6⟩
  rw [unhide HI2] at hL6
  have qZ := (bu6.block _ (Array.getElem?_eq_some_iff.1 q5).1 (fun h => by have := unhide HS5 _ h; omega)).trans q5
  have yZ := (bu6.block _ (Array.getElem?_eq_some_iff.1 y5).1 (fun h => by have := unhide HS5 _ h; omega)).trans y5
  have hbZ := (unhide HB5).trans ((bu6.to_below w3.heap.size (unhide HS5) (Nat.le_trans zz4 Z45)).mono (by have := zq3; omega))
  have tZ := (unhide HT).below hbZ (Nat.le_refl _)
  have RX : Hid (∀ w', (∃ p : Regrown, w' = Sort.grow (redrawn Z p.d) p.os) → w'.heap[w.heap.size]? = some (.cells X 24 (0, 0))) := fun w' ⟨p, hp⟩ => by rw [hp]; exact Below.at (below_regrown Z p.d p.os) (Array.getElem?_eq_some_iff.1 qZ).1 qZ
  have RY : Hid (∀ w', (∃ p : Regrown, w' = Sort.grow (redrawn Z p.d) p.os) → w'.heap[w.heap.size + 1]? = some (.cells Y 24 (0, 0))) := fun w' ⟨p, hp⟩ => by rw [hp]; exact Below.at (below_regrown Z p.d p.os) (Array.getElem?_eq_some_iff.1 yZ).1 yZ
  have kA := hide fun d os => Calls.regrown_of (w := Z) (d := d) (os := os) (unhide A _)
  have kLx := hide fun d os => Calls.regrown_of (w := Z) (d := d) (os := os) (unhide CLx _ (tZ.below (below_regrown Z d os) (Nat.le_refl _)))
  have kLy := hide fun d os => Calls.regrown_of (w := Z) (d := d) (os := os) (unhide CLy _ (tZ.below (below_regrown Z d os) (Nat.le_refl _)))
  have kS := hide fun d os => Calls.regrown_of (w := Z) (d := d) (os := os) (unhide CS _)
  clear qZ yZ tZ hL6 bu6 hs6 q5 y5
  go_wp2_with fail
  refine wp_region_below mixed (by kernel_rfl) ?_
  quiet_step (exact unhide kA _ _)
  go_big_quiet_step (fail)
  refine wpQuiet_load_row rfl 24 (.tmp 2) rfl w.heap.size rfl 24 X (0, 0) _ (unhide RX) Tryd.underlying24 rfl hi ?_
  quiet_step (exact unhide kLx _ _)
  refine wpQuiet_load_row rfl 24 (.tmp 3) rfl (w.heap.size + 1) rfl 24 Y (0, 0) _ (unhide RY) Tryd.underlying24 rfl hj ?_
  quiet_step (exact unhide kLy _ _)
  refine wpQuiet_neqL rfl 30 30 (.tmp 27) (.tmp 29) rfl _ _ rfl rfl (by kernel_rfl) _ (unhide hNE) ?_
  quiet_step (fail)
  go_big_quiet_step (fail)
  go_big_quiet_step (fail)
  go_big_quiet_step (fail)
  go_big_quiet_step (fail)
  go_big_quiet_step (fail)
  go_big_quiet_step (fail)
  go_big_quiet_step (fail)
  go_big_quiet_step (fail)
  go_big_quiet_step (fail)
  go_big_quiet_step (fail)
  refine wpQuiet_load_row rfl 24 (.tmp 2) rfl w.heap.size rfl 24 X (0, 0) _ (unhide RX) Tryd.underlying24 rfl hi ?_
  refine wpQuiet_load_row rfl 24 (.tmp 3) rfl (w.heap.size + 1) rfl 24 Y (0, 0) _ (unhide RY) Tryd.underlying24 rfl hj ?_
  quiet_step (exact unhide kS _ _)
  go_big_quiet_step (fail)
  go_big_quiet_step (fail)
  go_big_quiet_step (fail)
  go_big_quiet_step (fail)
  go_big_quiet_step (fail)
  go_big_quiet_step (fail)
  go_big_quiet_step (fail)
  go_big_quiet_step (fail)
  go_big_quiet_step (fail)
  go_big_quiet_step (fail)
  refine wpQuiet_nil ?_
  intro V hbV
  go_wp2
  go_ret
  exact ⟨rfl, hbZ.trans (hbV.mono hbZ.size)⟩
set_option maxHeartbeats 8000000 in
set_option maxRecDepth 100000 in
theorem letterLeaves_2 (x y : Lt) (ok : x.ok) (oky : y.ok) (l : x.se.length ≤ 2000 ∧ x.re.length ≤ 2000 ∧ x.bo.length ≤ 2000) (m : y.se.length ≤ 2000 ∧ y.re.length ≤ 2000 ∧ y.bo.length ≤ 2000) (w : World) (tabs : Tabs w)
    (hsame : pLSame x y = true) (hdig : decide (pLeaf x = pLeaf y) = true) :
    Calls Tryd.prog 3 #[.agg x.cells, .agg y.cells] w fun e w' => e = .returned (.bool true) ∧ Below w.heap.size w w' := by
  have A := hide lawake_calls
  have Lx := fun W => light_calls x W
  have Ly := fun W => light_calls y W
  have hi := let_info x
  have hj := let_info y
  have HT := hide tabs
  clear tabs
  obtain ⟨q0, y0⟩ := al2 w (.cells x.cells 24) (.cells y.cells 24)
  have hb0 := bel2 w (.cells x.cells 24) (.cells y.cells 24)
  have z0 := (Array.getElem?_eq_some_iff.1 q0).1
  have zy0 := (Array.getElem?_eq_some_iff.1 y0).1
  rw [(light_iff x).2 l] at Lx
  rw [(light_iff y).2 m] at Ly
  have LX := hide Lx
  have LY := hide Ly
  clear Lx Ly
  obtain ⟨l1, l2, l3⟩ := l
  obtain ⟨m1, m2, m3⟩ := m
  have CLx := hide fun W t => lleaf_calls x ok (by omega) (by omega) (by omega) W t
  have CLy := hide fun W t => lleaf_calls y oky (by omega) (by omega) (by omega) W t
  have CRx := hide fun b S ins hin W hL => lrleafQ_calls x ok (by omega) (by omega) (by omega) b S ins hin W hL
  have CRy := hide fun b S ins hin W hL => lrleafQ_calls y oky (by omega) (by omega) (by omega) b S ins hin W hL
  have CS := hide fun W => lsame_calls x y W
  have hEQ := hide fun W => dig_eq (pLeaf x) (pLeaf y) (pLeaf_length x) (pLeaf_length y) W
  have hNE := hide fun W => dig_neqL (pLeaf x) (pLeaf y) (pLeaf_length x) (pLeaf_length y) W
  rw [hdig] at hEQ hNE
  rw [hsame] at CS
  obtain ⟨I1, hI1⟩ : ∃ I, rnoted (pInput 5 [x.bytes]) [] = I := ⟨_, rfl⟩
  obtain ⟨I2, hI2⟩ : ∃ I, rnoted (pInput 5 [y.bytes]) I1 = I := ⟨_, rfl⟩
  have HC : Hid (pLSame x y = false → decide (pLeaf x = pLeaf y) = true → cnt I2 < I2.length) := hide fun h1 h2 => leaves_clash x y ok oky (by omega) (by omega) (by omega) (by omega) (by omega) (by omega) h1 (of_decide_eq_true h2) I1 I2 hI1 hI2
  rw [hsame, hdig] at HC
  have N1 : Hid (I1.length < 1000000) := hide (by rw [← hI1]; exact Nat.lt_of_le_of_lt (rnoted_le _ _) (by decide))
  have HI1 := hide hI1
  have HI2 := hide hI2
  clear hdig hsame l1 l2 l3 m1 m2 m3 hI1 hI2
  generalize pInput 5 [x.bytes] = IX at *
  generalize pInput 5 [y.bytes] = IY at *
  generalize pLeaf x = DX at *
  generalize pLeaf y = DY at *
  generalize x.cells = X at *
  generalize y.cells = Y at *
  clear ok oky
  go_enter Tryd.func3, Tryd.ntmps3
  go_wp2_with fail
  refine (unhide A _).mono ?_
  rintro e w1 ⟨rfl, b1⟩
  have q1 := Below.at b1 z0 q0
  have y1 := Below.at b1 zy0 y0
  have hb1 := hb0.trans (b1.mono hb0.size)
  clear q0 y0 b1
  go_wp2_with (refine wpList_load_row rfl 24 (.tmp 2) rfl w.heap.size rfl 24 X (0, 0) _ q1 Tryd.underlying24 rfl hi ?_)
  refine (unhide LX _).mono ?_
  rintro e w2 ⟨rfl, b2⟩
  have q2 := Below.at b2 (Array.getElem?_eq_some_iff.1 q1).1 q1
  have y2 := Below.at b2 (Array.getElem?_eq_some_iff.1 y1).1 y1
  have hb2 := hb1.trans (b2.mono hb1.size)
  clear q1 y1 b2 hb1
  go_wp2_with (refine wpList_load_row_gd rfl 24 (.tmp 3) rfl (w.heap.size + 1) rfl 24 Y (0, 0) _ y2 Tryd.underlying24 rfl hj ?_)
  refine (unhide LY _).mono ?_
  rintro e w3 ⟨rfl, b3⟩
  have q3 := Below.at b3 (Array.getElem?_eq_some_iff.1 q2).1 q2
  have y3 := Below.at b3 (Array.getElem?_eq_some_iff.1 y2).1 y2
  have hb3 := hb2.trans (b3.mono hb2.size)
  clear q2 y2 b3 hb2
  go_wp2_with fail
  refine (rnewLog_calls _).mono ?_
  rintro e w4 ⟨rfl, hL4, b4, z4⟩
  have q4 := Below.at b4 (Array.getElem?_eq_some_iff.1 q3).1 q3
  have y4 := Below.at b4 (Array.getElem?_eq_some_iff.1 y3).1 y3
  have hb4 := hb3.trans (b4.mono hb3.size)
  have zq3 := (Array.getElem?_eq_some_iff.1 q3).1
  have zy3 := (Array.getElem?_eq_some_iff.1 y3).1
  have zz4 : w3.heap.size ≤ w4.heap.size := b4.size
  obtain ⟨B, hB⟩ : ∃ B, w3.heap.size + 1 = B := ⟨_, rfl⟩
  obtain ⟨S4, hS4⟩ : ∃ S : Nat → Prop, (fun k => w3.heap.size ≤ k ∧ k < w3.heap.size + 2) = S := ⟨_, rfl⟩
  have HS4 : Hid (∀ k, S4 k → w3.heap.size ≤ k) := hide fun k h => by rw [← hS4] at h; exact h.1
  rw [hB, hS4] at hL4
  rw [hB]
  have HL4 := hide hL4
  have HB4 := hide hb4
  clear q3 y3 hb3 b4 z4 hB hS4 hL4
  go_wp2_with (refine wpList_load_row rfl 24 (.tmp 2) rfl w.heap.size rfl 24 X (0, 0) _ q4 Tryd.underlying24 rfl hi ?_)
  refine (unhide CRx B S4 [] (by simp) _ (unhide HL4)).mono ?_
  rintro e w5 ⟨rfl, S5, hL5, bu5, hs5⟩
  rw [unhide HI1] at hL5
  have q5 := (bu5.block _ (Array.getElem?_eq_some_iff.1 q4).1 (fun h => by have := unhide HS4 _ h; omega)).trans q4
  have y5 := (bu5.block _ (Array.getElem?_eq_some_iff.1 y4).1 (fun h => by have := unhide HS4 _ h; omega)).trans y4
  have HS5 : Hid (∀ k, S5 k → w3.heap.size ≤ k) := hide fun k h => (hs5 k h).elim (unhide HS4 k) (Nat.le_trans zz4)
  have hb5 := (unhide HB4).trans ((bu5.to_below w3.heap.size (unhide HS4) zz4).mono (by have := zq3; omega))
  have Z45 : w4.heap.size ≤ w5.heap.size := bu5.size
  have HL5 := hide hL5
  have HB5 := hide hb5
  clear q4 y4 hL5 bu5 hs5 hb5
  go_wp2_with (refine wpList_load_row rfl 24 (.tmp 3) rfl (w.heap.size + 1) rfl 24 Y (0, 0) _ y5 Tryd.underlying24 rfl hj ?_)
  refine (unhide CRy B S5 I1 (unhide N1) _ (unhide HL5)).mono ?_
  rintro e Z ⟨rfl, S6, hL6, bu6, hs6⟩
  rw [unhide HI2] at hL6
  have qZ := (bu6.block _ (Array.getElem?_eq_some_iff.1 q5).1 (fun h => by have := unhide HS5 _ h; omega)).trans q5
  have yZ := (bu6.block _ (Array.getElem?_eq_some_iff.1 y5).1 (fun h => by have := unhide HS5 _ h; omega)).trans y5
  have hbZ := (unhide HB5).trans ((bu6.to_below w3.heap.size (unhide HS5) (Nat.le_trans zz4 Z45)).mono (by have := zq3; omega))
  have tZ := (unhide HT).below hbZ (Nat.le_refl _)
  have RX : Hid (∀ w', (∃ p : Regrown, w' = Sort.grow (redrawn Z p.d) p.os) → w'.heap[w.heap.size]? = some (.cells X 24 (0, 0))) := fun w' ⟨p, hp⟩ => by rw [hp]; exact Below.at (below_regrown Z p.d p.os) (Array.getElem?_eq_some_iff.1 qZ).1 qZ
  have RY : Hid (∀ w', (∃ p : Regrown, w' = Sort.grow (redrawn Z p.d) p.os) → w'.heap[w.heap.size + 1]? = some (.cells Y 24 (0, 0))) := fun w' ⟨p, hp⟩ => by rw [hp]; exact Below.at (below_regrown Z p.d p.os) (Array.getElem?_eq_some_iff.1 yZ).1 yZ
  have kA := hide fun d os => Calls.regrown_of (w := Z) (d := d) (os := os) (unhide A _)
  have kLx := hide fun d os => Calls.regrown_of (w := Z) (d := d) (os := os) (unhide CLx _ (tZ.below (below_regrown Z d os) (Nat.le_refl _)))
  have kLy := hide fun d os => Calls.regrown_of (w := Z) (d := d) (os := os) (unhide CLy _ (tZ.below (below_regrown Z d os) (Nat.le_refl _)))
  have kS := hide fun d os => Calls.regrown_of (w := Z) (d := d) (os := os) (unhide CS _)
  clear qZ yZ tZ hL6 bu6 hs6 q5 y5
  go_wp2_with fail
  refine wp_region_below mixed (by kernel_rfl) ?_
  quiet_step (exact unhide kA _ _)
  go_big_quiet_step (fail)
  refine wpQuiet_load_row rfl 24 (.tmp 2) rfl w.heap.size rfl 24 X (0, 0) _ (unhide RX) Tryd.underlying24 rfl hi ?_
  quiet_step (exact unhide kLx _ _)
  refine wpQuiet_load_row rfl 24 (.tmp 3) rfl (w.heap.size + 1) rfl 24 Y (0, 0) _ (unhide RY) Tryd.underlying24 rfl hj ?_
  quiet_step (exact unhide kLy _ _)
  refine wpQuiet_neqL rfl 30 30 (.tmp 27) (.tmp 29) rfl _ _ rfl rfl (by kernel_rfl) _ (unhide hNE) ?_
  quiet_step (fail)
  refine wpQuiet_load_row rfl 24 (.tmp 2) rfl w.heap.size rfl 24 X (0, 0) _ (unhide RX) Tryd.underlying24 rfl hi ?_
  refine wpQuiet_load_row rfl 24 (.tmp 3) rfl (w.heap.size + 1) rfl 24 Y (0, 0) _ (unhide RY) Tryd.underlying24 rfl hj ?_
  quiet_step (exact unhide kS _ _)
  go_big_quiet_step (fail)
  go_big_quiet_step (fail)
  go_big_quiet_step (fail)
  go_big_quiet_step (fail)
  go_big_quiet_step (fail)
  go_big_quiet_step (fail)
  go_big_quiet_step (fail)
  refine wpQuiet_load_row rfl 24 (.tmp 2) rfl w.heap.size rfl 24 X (0, 0) _ (unhide RX) Tryd.underlying24 rfl hi ?_
  refine wpQuiet_load_row rfl 24 (.tmp 3) rfl (w.heap.size + 1) rfl 24 Y (0, 0) _ (unhide RY) Tryd.underlying24 rfl hj ?_
  quiet_step (exact unhide kS _ _)
  go_big_quiet_step (fail)
  go_big_quiet_step (fail)
  refine wpQuiet_load_row rfl 24 (.tmp 2) rfl w.heap.size rfl 24 X (0, 0) _ (unhide RX) Tryd.underlying24 rfl hi ?_
  quiet_step (exact unhide kLx _ _)
  refine wpQuiet_load_row rfl 24 (.tmp 3) rfl (w.heap.size + 1) rfl 24 Y (0, 0) _ (unhide RY) Tryd.underlying24 rfl hj ?_
  quiet_step (exact unhide kLy _ _)
  refine wpQuiet_eql rfl 30 30 (.tmp 48) (.tmp 50) rfl _ _ rfl rfl (by kernel_rfl) _ (unhide hEQ) ?_
  quiet_step (fail)
  go_big_quiet_step (fail)
  go_big_quiet_step (fail)
  refine wpQuiet_nil ?_
  intro V hbV
  go_wp2
  go_ret
  exact ⟨rfl, hbZ.trans (hbV.mono hbZ.size)⟩
set_option maxHeartbeats 8000000 in
set_option maxRecDepth 100000 in
theorem letterLeaves_3 (x y : Lt) (ok : x.ok) (oky : y.ok) (l : x.se.length ≤ 2000 ∧ x.re.length ≤ 2000 ∧ x.bo.length ≤ 2000) (m : y.se.length ≤ 2000 ∧ y.re.length ≤ 2000 ∧ y.bo.length ≤ 2000) (w : World) (tabs : Tabs w)
    (hsame : pLSame x y = false) (hdig : decide (pLeaf x = pLeaf y) = true) :
    Calls Tryd.prog 3 #[.agg x.cells, .agg y.cells] w fun e w' => e = .returned (.bool true) ∧ Below w.heap.size w w' := by
  have A := hide lawake_calls
  have Lx := fun W => light_calls x W
  have Ly := fun W => light_calls y W
  have hi := let_info x
  have hj := let_info y
  have HT := hide tabs
  clear tabs
  obtain ⟨q0, y0⟩ := al2 w (.cells x.cells 24) (.cells y.cells 24)
  have hb0 := bel2 w (.cells x.cells 24) (.cells y.cells 24)
  have z0 := (Array.getElem?_eq_some_iff.1 q0).1
  have zy0 := (Array.getElem?_eq_some_iff.1 y0).1
  rw [(light_iff x).2 l] at Lx
  rw [(light_iff y).2 m] at Ly
  have LX := hide Lx
  have LY := hide Ly
  clear Lx Ly
  obtain ⟨l1, l2, l3⟩ := l
  obtain ⟨m1, m2, m3⟩ := m
  have CLx := hide fun W t => lleaf_calls x ok (by omega) (by omega) (by omega) W t
  have CLy := hide fun W t => lleaf_calls y oky (by omega) (by omega) (by omega) W t
  have CRx := hide fun b S ins hin W hL => lrleafQ_calls x ok (by omega) (by omega) (by omega) b S ins hin W hL
  have CRy := hide fun b S ins hin W hL => lrleafQ_calls y oky (by omega) (by omega) (by omega) b S ins hin W hL
  have CS := hide fun W => lsame_calls x y W
  have hEQ := hide fun W => dig_eq (pLeaf x) (pLeaf y) (pLeaf_length x) (pLeaf_length y) W
  have hNE := hide fun W => dig_neqL (pLeaf x) (pLeaf y) (pLeaf_length x) (pLeaf_length y) W
  rw [hdig] at hEQ hNE
  rw [hsame] at CS
  obtain ⟨I1, hI1⟩ : ∃ I, rnoted (pInput 5 [x.bytes]) [] = I := ⟨_, rfl⟩
  obtain ⟨I2, hI2⟩ : ∃ I, rnoted (pInput 5 [y.bytes]) I1 = I := ⟨_, rfl⟩
  have HC : Hid (pLSame x y = false → decide (pLeaf x = pLeaf y) = true → cnt I2 < I2.length) := hide fun h1 h2 => leaves_clash x y ok oky (by omega) (by omega) (by omega) (by omega) (by omega) (by omega) h1 (of_decide_eq_true h2) I1 I2 hI1 hI2
  rw [hsame, hdig] at HC
  have N1 : Hid (I1.length < 1000000) := hide (by rw [← hI1]; exact Nat.lt_of_le_of_lt (rnoted_le _ _) (by decide))
  have HI1 := hide hI1
  have HI2 := hide hI2
  clear hdig hsame l1 l2 l3 m1 m2 m3 hI1 hI2
  generalize pInput 5 [x.bytes] = IX at *
  generalize pInput 5 [y.bytes] = IY at *
  generalize pLeaf x = DX at *
  generalize pLeaf y = DY at *
  generalize x.cells = X at *
  generalize y.cells = Y at *
  clear ok oky
  go_enter Tryd.func3, Tryd.ntmps3
  go_wp2_with fail
  refine (unhide A _).mono ?_
  rintro e w1 ⟨rfl, b1⟩
  have q1 := Below.at b1 z0 q0
  have y1 := Below.at b1 zy0 y0
  have hb1 := hb0.trans (b1.mono hb0.size)
  clear q0 y0 b1
  go_wp2_with (refine wpList_load_row rfl 24 (.tmp 2) rfl w.heap.size rfl 24 X (0, 0) _ q1 Tryd.underlying24 rfl hi ?_)
  refine (unhide LX _).mono ?_
  rintro e w2 ⟨rfl, b2⟩
  have q2 := Below.at b2 (Array.getElem?_eq_some_iff.1 q1).1 q1
  have y2 := Below.at b2 (Array.getElem?_eq_some_iff.1 y1).1 y1
  have hb2 := hb1.trans (b2.mono hb1.size)
  clear q1 y1 b2 hb1
  go_wp2_with (refine wpList_load_row_gd rfl 24 (.tmp 3) rfl (w.heap.size + 1) rfl 24 Y (0, 0) _ y2 Tryd.underlying24 rfl hj ?_)
  refine (unhide LY _).mono ?_
  rintro e w3 ⟨rfl, b3⟩
  have q3 := Below.at b3 (Array.getElem?_eq_some_iff.1 q2).1 q2
  have y3 := Below.at b3 (Array.getElem?_eq_some_iff.1 y2).1 y2
  have hb3 := hb2.trans (b3.mono hb2.size)
  clear q2 y2 b3 hb2
  go_wp2_with fail
  refine (rnewLog_calls _).mono ?_
  rintro e w4 ⟨rfl, hL4, b4, z4⟩
  have q4 := Below.at b4 (Array.getElem?_eq_some_iff.1 q3).1 q3
  have y4 := Below.at b4 (Array.getElem?_eq_some_iff.1 y3).1 y3
  have hb4 := hb3.trans (b4.mono hb3.size)
  have zq3 := (Array.getElem?_eq_some_iff.1 q3).1
  have zy3 := (Array.getElem?_eq_some_iff.1 y3).1
  have zz4 : w3.heap.size ≤ w4.heap.size := b4.size
  obtain ⟨B, hB⟩ : ∃ B, w3.heap.size + 1 = B := ⟨_, rfl⟩
  obtain ⟨S4, hS4⟩ : ∃ S : Nat → Prop, (fun k => w3.heap.size ≤ k ∧ k < w3.heap.size + 2) = S := ⟨_, rfl⟩
  have HS4 : Hid (∀ k, S4 k → w3.heap.size ≤ k) := hide fun k h => by rw [← hS4] at h; exact h.1
  rw [hB, hS4] at hL4
  rw [hB]
  have HL4 := hide hL4
  have HB4 := hide hb4
  clear q3 y3 hb3 b4 z4 hB hS4 hL4
  go_wp2_with (refine wpList_load_row rfl 24 (.tmp 2) rfl w.heap.size rfl 24 X (0, 0) _ q4 Tryd.underlying24 rfl hi ?_)
  refine (unhide CRx B S4 [] (by simp) _ (unhide HL4)).mono ?_
  rintro e w5 ⟨rfl, S5, hL5, bu5, hs5⟩
  rw [unhide HI1] at hL5
  have q5 := (bu5.block _ (Array.getElem?_eq_some_iff.1 q4).1 (fun h => by have := unhide HS4 _ h; omega)).trans q4
  have y5 := (bu5.block _ (Array.getElem?_eq_some_iff.1 y4).1 (fun h => by have := unhide HS4 _ h; omega)).trans y4
  have HS5 : Hid (∀ k, S5 k → w3.heap.size ≤ k) := hide fun k h => (hs5 k h).elim (unhide HS4 k) (Nat.le_trans zz4)
  have hb5 := (unhide HB4).trans ((bu5.to_below w3.heap.size (unhide HS4) zz4).mono (by have := zq3; omega))
  have Z45 : w4.heap.size ≤ w5.heap.size := bu5.size
  have HL5 := hide hL5
  have HB5 := hide hb5
  clear q4 y4 hL5 bu5 hs5 hb5
  go_wp2_with (refine wpList_load_row rfl 24 (.tmp 3) rfl (w.heap.size + 1) rfl 24 Y (0, 0) _ y5 Tryd.underlying24 rfl hj ?_)
  refine (unhide CRy B S5 I1 (unhide N1) _ (unhide HL5)).mono ?_
  rintro e Z ⟨rfl, S6, hL6, bu6, hs6⟩
  rw [unhide HI2] at hL6
  have qZ := (bu6.block _ (Array.getElem?_eq_some_iff.1 q5).1 (fun h => by have := unhide HS5 _ h; omega)).trans q5
  have yZ := (bu6.block _ (Array.getElem?_eq_some_iff.1 y5).1 (fun h => by have := unhide HS5 _ h; omega)).trans y5
  have hbZ := (unhide HB5).trans ((bu6.to_below w3.heap.size (unhide HS5) (Nat.le_trans zz4 Z45)).mono (by have := zq3; omega))
  have tZ := (unhide HT).below hbZ (Nat.le_refl _)
  have RX : Hid (∀ w', (∃ p : Regrown, w' = Sort.grow (redrawn Z p.d) p.os) → w'.heap[w.heap.size]? = some (.cells X 24 (0, 0))) := fun w' ⟨p, hp⟩ => by rw [hp]; exact Below.at (below_regrown Z p.d p.os) (Array.getElem?_eq_some_iff.1 qZ).1 qZ
  have RY : Hid (∀ w', (∃ p : Regrown, w' = Sort.grow (redrawn Z p.d) p.os) → w'.heap[w.heap.size + 1]? = some (.cells Y 24 (0, 0))) := fun w' ⟨p, hp⟩ => by rw [hp]; exact Below.at (below_regrown Z p.d p.os) (Array.getElem?_eq_some_iff.1 yZ).1 yZ
  have kA := hide fun d os => Calls.regrown_of (w := Z) (d := d) (os := os) (unhide A _)
  have kLx := hide fun d os => Calls.regrown_of (w := Z) (d := d) (os := os) (unhide CLx _ (tZ.below (below_regrown Z d os) (Nat.le_refl _)))
  have kLy := hide fun d os => Calls.regrown_of (w := Z) (d := d) (os := os) (unhide CLy _ (tZ.below (below_regrown Z d os) (Nat.le_refl _)))
  have kS := hide fun d os => Calls.regrown_of (w := Z) (d := d) (os := os) (unhide CS _)
  have CL := fun W h => rclash_calls B S6 I2 W h
  rw [decide_eq_true (unhide HC (by trivial) (by trivial))] at CL
  have kC := hide fun d os => Calls.regrown_of (w := Z) (d := d) (os := os) (CL _ (hL6.below (below_regrown Z d os)))
  clear CL
  clear qZ yZ tZ hL6 bu6 hs6 q5 y5
  go_wp2_with fail
  refine wp_region_below mixed (by kernel_rfl) ?_
  quiet_step (exact unhide kA _ _)
  go_big_quiet_step (fail)
  refine wpQuiet_load_row rfl 24 (.tmp 2) rfl w.heap.size rfl 24 X (0, 0) _ (unhide RX) Tryd.underlying24 rfl hi ?_
  quiet_step (exact unhide kLx _ _)
  refine wpQuiet_load_row rfl 24 (.tmp 3) rfl (w.heap.size + 1) rfl 24 Y (0, 0) _ (unhide RY) Tryd.underlying24 rfl hj ?_
  quiet_step (exact unhide kLy _ _)
  refine wpQuiet_neqL rfl 30 30 (.tmp 27) (.tmp 29) rfl _ _ rfl rfl (by kernel_rfl) _ (unhide hNE) ?_
  quiet_step (fail)
  refine wpQuiet_load_row rfl 24 (.tmp 2) rfl w.heap.size rfl 24 X (0, 0) _ (unhide RX) Tryd.underlying24 rfl hi ?_
  refine wpQuiet_load_row rfl 24 (.tmp 3) rfl (w.heap.size + 1) rfl 24 Y (0, 0) _ (unhide RY) Tryd.underlying24 rfl hj ?_
  quiet_step (exact unhide kS _ _)
  go_big_quiet_step (fail)
  go_big_quiet_step (fail)
  go_big_quiet_step (fail)
  quiet_step (exact unhide kC _ _)
  go_big_quiet_step (fail)
  go_big_quiet_step (fail)
  go_big_quiet_step (fail)
  refine wpQuiet_load_row rfl 24 (.tmp 2) rfl w.heap.size rfl 24 X (0, 0) _ (unhide RX) Tryd.underlying24 rfl hi ?_
  refine wpQuiet_load_row rfl 24 (.tmp 3) rfl (w.heap.size + 1) rfl 24 Y (0, 0) _ (unhide RY) Tryd.underlying24 rfl hj ?_
  quiet_step (exact unhide kS _ _)
  go_big_quiet_step (fail)
  go_big_quiet_step (fail)
  go_big_quiet_step (fail)
  go_big_quiet_step (fail)
  go_big_quiet_step (fail)
  go_big_quiet_step (fail)
  go_big_quiet_step (fail)
  go_big_quiet_step (fail)
  go_big_quiet_step (fail)
  go_big_quiet_step (fail)
  refine wpQuiet_nil ?_
  intro V hbV
  go_wp2
  go_ret
  exact ⟨rfl, hbZ.trans (hbV.mono hbZ.size)⟩
set_option maxHeartbeats 8000000 in
set_option maxRecDepth 100000 in
theorem letterLeaves_walk (x y : Lt) (ok : x.ok) (oky : y.ok) (w : World) (tabs : Tabs w) :
    Calls Tryd.prog 3 #[.agg x.cells, .agg y.cells] w fun e w' => e = .returned (.bool true) ∧ Below w.heap.size w w' := by
  by_cases lx : x.se.length ≤ 2000 ∧ x.re.length ≤ 2000 ∧ x.bo.length ≤ 2000
  · by_cases ly : y.se.length ≤ 2000 ∧ y.re.length ≤ 2000 ∧ y.bo.length ≤ 2000
    · cases hs : pLSame x y with
      | true => exact letterLeaves_2 x y ok oky lx ly w tabs hs (by rw [(pLSame_iff x y).1 hs]; simp)
      | false =>
        cases hd : decide (pLeaf x = pLeaf y) with
        | false => exact letterLeaves_1 x y ok oky lx ly w tabs hs hd
        | true => exact letterLeaves_3 x y ok oky lx ly w tabs hs hd
    · exact letterLeaves_dark x y w (fun h => ly h.2)
  · exact letterLeaves_dark x y w (fun h => lx h.1)
end Go.Proofs.YtaclnlmmkcjjeaaDoor

namespace Go.Proofs.YtaclnlmmkcjjeaaDoor
open Go.ChangeShapes Go.WideShapes Go.ChangeAt Go.RowKit

theorem shaOwn : ownKnob Tryd.prog.godebug = none := by kernel_rfl
theorem shaLaidOut : laidOutB Tryd.prog = true := by kernel_rfl
theorem gFirst : Tryd.prog.globalNamed "pontoon/sha.firstWords" = some 0 := by kernel_rfl
theorem gFirstType : (Tryd.prog.globals[0]?).map (·.type) = some 68 := by kernel_rfl
theorem gRound : Tryd.prog.globalNamed "pontoon/sha.roundWords" = some 1 := by kernel_rfl
theorem gRoundType : (Tryd.prog.globals[1]?).map (·.type) = some 102 := by kernel_rfl
theorem cells64 : Tryd.prog.cellsOf 102 = 64 := by kernel_rfl
theorem cells8 : Tryd.prog.cellsOf 68 = 8 := by kernel_rfl
theorem cellsW : Tryd.prog.cellsOf 22 = 1 := by kernel_rfl

/-- What a row lists of package sha. -/
def shaListed : List (String × DataW Unit) := [("pontoon/sha.firstWords", Rows.laid_pontoon_sha_firstWords), ("pontoon/sha.roundWords", Rows.laid_pontoon_sha_roundWords)]
def kInts : List Int := [1116352408, 1899447441, 3049323471, 3921009573, 961987163, 1508970993, 2453635748, 2870763221, 3624381080, 310598401, 607225278, 1426881987, 1925078388, 2162078206, 2614888103, 3248222580, 3835390401, 4022224774, 264347078, 604807628, 770255983, 1249150122, 1555081692, 1996064986, 2554220882, 2821834349, 2952996808, 3210313671, 3336571891, 3584528711, 113926993, 338241895, 666307205, 773529912, 1294757372, 1396182291, 1695183700, 1986661051, 2177026350, 2456956037, 2730485921, 2820302411, 3259730800, 3345764771, 3516065817, 3600352804, 4094571909, 275423344, 430227734, 506948616, 659060556, 883997877, 958139571, 1322822218, 1537002063, 1747873779, 1955562222, 2024104815, 2227730452, 2361852424, 2428436474, 2756734187, 3204031479, 3329325298]
def hInts : List Int := [1779033703, 3144134277, 1013904242, 2773480762, 1359893119, 2600822924, 528734635, 1541459225]
theorem kInts_at : ∀ j, j < 64 → kInts.getD j 0 = ((kWords.getD j 0).toNat : Int) := by decide +kernel
theorem hInts_at : ∀ j, j < 8 → hInts.getD j 0 = ((hWords.getD j 0).toNat : Int) := by decide +kernel

theorem tabs_of {W : World} (h : laidMetH Tryd.prog shaListed W) : Tabs W := by
  have h1 : Lib.TabIs Tryd.prog W "pontoon/sha.firstWords" .u32 hInts :=
    Lib.tabIs_of_head (rest := [("pontoon/sha.roundWords", Rows.laid_pontoon_sha_roundWords)]) gFirst gFirstType Tryd.underlying68 Tryd.underlying22 cellsW cells8 h
  have e : shaListed.filter (fun x => x.1 == "pontoon/sha.roundWords") = [("pontoon/sha.roundWords", Rows.laid_pontoon_sha_roundWords)] := by kernel_rfl
  have hf := h.filter (fun x => x.1 == "pontoon/sha.roundWords")
  rw [e] at hf
  have h2 : Lib.TabIs Tryd.prog W "pontoon/sha.roundWords" .u32 kInts :=
    Lib.tabIs_of_head (rest := []) gRound gRoundType Tryd.underlying102 Tryd.underlying22 cellsW cells64 hf
  have k : ∀ j, j < 64 → W.cell? ⟨1, j, none⟩ = some (.int .u32 ((kWords.getD j 0).toNat : Int)) := fun j hj => by
    rw [← kInts_at j hj]; exact h2.cell gRound j (by simpa [kInts] using hj)
  have hh : ∀ j, j < 8 → W.cell? ⟨0, j, none⟩ = some (.int .u32 ((hWords.getD j 0).toNat : Int)) := fun j hj => by
    rw [← hInts_at j hj]; exact h1.cell gFirst j (by simpa [hInts] using hj)
  exact ⟨⟨block_lt_of_cell (hh 0 (by decide)), block_lt_of_cell (k 0 (by decide))⟩, k, hh⟩

/-- A variable's cells turned. -/
def layCells (cs : Array Value) : Obj → Obj
  | .cells _ t frozen => .cells cs t frozen
  | o => o
def hCells : Array Value := #[.int .u32 1779033703, .int .u32 3144134277, .int .u32 1013904242, .int .u32 2773480762, .int .u32 1359893119, .int .u32 2600822924, .int .u32 528734635, .int .u32 1541459225]
def kCells : Array Value := #[.int .u32 1116352408, .int .u32 1899447441, .int .u32 3049323471, .int .u32 3921009573, .int .u32 961987163, .int .u32 1508970993, .int .u32 2453635748, .int .u32 2870763221, .int .u32 3624381080, .int .u32 310598401, .int .u32 607225278, .int .u32 1426881987, .int .u32 1925078388, .int .u32 2162078206, .int .u32 2614888103, .int .u32 3248222580, .int .u32 3835390401, .int .u32 4022224774, .int .u32 264347078, .int .u32 604807628, .int .u32 770255983, .int .u32 1249150122, .int .u32 1555081692, .int .u32 1996064986, .int .u32 2554220882, .int .u32 2821834349, .int .u32 2952996808, .int .u32 3210313671, .int .u32 3336571891, .int .u32 3584528711, .int .u32 113926993, .int .u32 338241895, .int .u32 666307205, .int .u32 773529912, .int .u32 1294757372, .int .u32 1396182291, .int .u32 1695183700, .int .u32 1986661051, .int .u32 2177026350, .int .u32 2456956037, .int .u32 2730485921, .int .u32 2820302411, .int .u32 3259730800, .int .u32 3345764771, .int .u32 3516065817, .int .u32 3600352804, .int .u32 4094571909, .int .u32 275423344, .int .u32 430227734, .int .u32 506948616, .int .u32 659060556, .int .u32 883997877, .int .u32 958139571, .int .u32 1322822218, .int .u32 1537002063, .int .u32 1747873779, .int .u32 1955562222, .int .u32 2024104815, .int .u32 2227730452, .int .u32 2361852424, .int .u32 2428436474, .int .u32 2756734187, .int .u32 3204031479, .int .u32 3329325298]
/-- A world for the witness: the settled one, the two tables holding what their initialisers lay. -/
noncomputable def shaWorld (os : Os) : World :=
  { World.holding Tryd.prog os ⟨#[], #[], []⟩ with heap := ((World.holding Tryd.prog os ⟨#[], #[], []⟩).heap.modify 0 (layCells hCells)).modify 1 (layCells kCells) }
theorem addr_add (b o j : Nat) : (⟨b, o, none⟩ : Addr).add j = ⟨b, o + j, none⟩ := by unfold Addr.add; split <;> simp_all

end Go.Proofs.YtaclnlmmkcjjeaaDoor

namespace Go.Proofs.YtaclnlmmkcjjeaaDoor
open Go.ChangeShapes Go.WideShapes Go.ChangeAt Go.RowKit
set_option linter.unusedVariables false

theorem array6 {α : Type} {cs : Array α} (h : cs.size = 6) : ∃ c0 c1 c2 c3 c4 c5, cs = #[c0, c1, c2, c3, c4, c5] := by
  obtain ⟨l⟩ := cs
  match l, h with
  | [c0, c1, c2, c3, c4, c5], _ => exact ⟨c0, c1, c2, c3, c4, c5, rfl⟩
theorem trod_struct6 {P : Program} {H : Type} {enc : TypeId × Value → H} {w : World} {base : Nat} {spare : Nat → Bool} {held : Bool} {t : TypeId} {f0 f1 f2 f3 f4 f5 : Field} {fuel : Nat} {cs : List Value} {x : DataW H × List MemPlace} (ht : P.underlying t = some (.struct #[f0, f1, f2, f3, f4, f5])) (h : DataW.trod enc P w base spare held fuel t cs = some x) :
    ∃ y0 y1 y2 y3 y4 y5 n, DataW.trod enc P w base spare held n f0.type ((cs.drop f0.offset).take (P.cellsOf f0.type)) = some y0 ∧
      DataW.trod enc P w base spare held n f1.type ((cs.drop f1.offset).take (P.cellsOf f1.type)) = some y1 ∧ DataW.trod enc P w base spare held n f2.type ((cs.drop f2.offset).take (P.cellsOf f2.type)) = some y2 ∧
      DataW.trod enc P w base spare held n f3.type ((cs.drop f3.offset).take (P.cellsOf f3.type)) = some y3 ∧ DataW.trod enc P w base spare held n f4.type ((cs.drop f4.offset).take (P.cellsOf f4.type)) = some y4 ∧
      DataW.trod enc P w base spare held n f5.type ((cs.drop f5.offset).take (P.cellsOf f5.type)) = some y5 := by
  obtain ⟨xs, n, _, rfl, hl, hlen, hf⟩ := DataW.trod_struct ht h
  match xs, hlen with
  | [y0, y1, y2, y3, y4, y5], _ => exact ⟨y0, y1, y2, y3, y4, y5, n, by simpa using hf 0 f0 rfl, by simpa using hf 1 f1 rfl, by simpa using hf 2 f2 rfl, by simpa using hf 3 f3 rfl, by simpa using hf 4 f4 rfl, by simpa using hf 5 f5 rfl⟩
theorem open_letter {H : Type} {enc : TypeId × Value → H} {W : World} {base : Nat} {sp : Nat → Bool} {held : Bool} {cs : Array Value} (hn : cs.size = 6) {d : DataW H} {ps : List MemPlace} (hd : DataW.Trod enc Tryd.prog W base sp held 24 (.agg cs) d ps) :
    ∃ x : Lt, x.ok ∧ cs = x.cells ∧ x.se.length ≤ maxLen ∧ x.re.length ≤ maxLen ∧ x.bo.length ≤ maxLen := by
  obtain ⟨fuel, hf⟩ := hd
  have h3 : Tryd.prog.cellsOf 22 = 1 := by kernel_rfl
  have h4 : Tryd.prog.cellsOf 9 = 1 := by kernel_rfl
  obtain ⟨c0, c1, c2, c3, c4, c5, rfl⟩ := array6 hn
  obtain ⟨y0, y1, y2, y3, y4, y5, n, h0, h1, h2, g3, g4, g5⟩ := trod_struct6 Tryd.underlying24 hf
  simp only [h3, h4, Value.cells, List.drop_zero, List.take_succ_cons, List.take_zero, List.drop_succ_cons] at h0 h1 h2 g3 g4 g5
  obtain ⟨a, ha, _, hwa⟩ := DataW.trod_int Tryd.underlying22 h0
  obtain ⟨b, hb, _, hwb⟩ := DataW.trod_int Tryd.underlying22 h1
  obtain ⟨c, hc, _, hwc⟩ := DataW.trod_int Tryd.underlying22 h2
  obtain ⟨s, hs, _, hws⟩ := DataW.trod_string Tryd.underlying9 g3
  obtain ⟨r, hr, _, hwr⟩ := DataW.trod_string Tryd.underlying9 g4
  obtain ⟨o, ho, _, hwo⟩ := DataW.trod_string Tryd.underlying9 g5
  simp only [List.cons.injEq, and_true] at ha hb hc hs hr ho
  subst ha hb hc hs hr ho
  simp [Lit.wf, IntKind.min, IntKind.max, IntKind.signed, IntKind.bits] at hwa hwb hwc
  obtain ⟨a, rfl⟩ := Int.eq_ofNat_of_zero_le hwa.1
  obtain ⟨b, rfl⟩ := Int.eq_ofNat_of_zero_le hwb.1
  obtain ⟨c, rfl⟩ := Int.eq_ofNat_of_zero_le hwc.1
  refine ⟨⟨a, b, c, s.data.toList, r.data.toList, o.data.toList⟩, ⟨by show a < _; omega, by show b < _; omega, by show c < _; omega⟩, ?_, ?_, ?_, ?_⟩
  · simp only [Lt.cells, str_list]
  · rw [← str_list s, str_size] at hws; exact hws
  · rw [← str_list r, str_size] at hwr; exact hwr
  · rw [← str_list o, str_size] at hwo; exact hwo
end Go.Proofs.YtaclnlmmkcjjeaaDoor
