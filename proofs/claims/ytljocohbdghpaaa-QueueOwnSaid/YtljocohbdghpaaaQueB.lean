/-
  PACKAGE queue AT string: same, place, slices.IndexFunc, slices.Clone.
-/
import Derived.Test.YtljocohbdghpaaaQueP
import Derived.Defers

import Derived.Recover
import Derived.Lib.SliceRun
namespace Go.Proofs.Ytljocohbdghpaaa
open Go Go.RowKit
set_option linter.unusedSimpArgs false
set_option linter.unusedVariables false

def enS (a : List UInt8) : Value := .string (str a)
theorem oneS (a : List UInt8) : One (enS a) := .inr ⟨_, rfl⟩
theorem eqvS (a b : List UInt8) (w : World) : (binOp .eql 9 (enS a) (enS b)).run Try.prog w = .ok (.bool (decide (a = b))) w := by
  have s := toList_eqQ a b
  unfold enS
  go_simp
  by_cases h2 : a = b <;> simp_all
theorem infoS : (Try.prog.info? 9).map (fun i => (i.size, i.bytes, i.zero.map (·.cells.size))) = some (1, 16, some 1) := by kernel_rfl
set_option maxRecDepth 100000 in
theorem idleS_calls (p : Addr) (w : World) :
    CallsD Try.prog 35 #[.pointer (some p)] .returning w fun e u' w' => e = .returned (.tuple #[]) ∧ u' = .returning ∧ w' = w := by
  refine callsD_of_wpS Try.func35 rfl fun c₀ cs hu => ?_
  apply wpS_seq
  apply wpS_region
  have hn : ∀ w, (binOp .neq 20 .nilIface .nilIface).run Try.prog w = .ok (.bool false) w := fun w => run_neq_nil_nil w 20 (by kernel_rfl)
  simp [wpOpsS, go_sem, recoverD, hu, hn, Try.ntmps35, Exit.thenS, bodyPostS, results, Try.results35]
  apply wpS_cond (t := false) rfl
  apply wpS_of_wp
  go_wp2
  simp [bodyPostS, results, Try.results35, go_sem]
  cases c₀
  simp_all
set_option maxRecDepth 100000 in
theorem sameS_calls (X Y : Value) (hX : One X) (ans : Bool) (he : ∀ w, (binOp .eql 9 X Y).run Try.prog w = .ok (.bool ans) w) (w : World) :
    Calls Try.prog 33 #[X, Y] w fun e w' => e = .returned (.bool ans) ∧ Below w.heap.size w w' := by
  have hmf : ∀ (fn : Fn) (first cap : Array Value) (w : World), (Instr.makeFunc fn first cap).run Try.prog w = .ok (.func fn first cap) w := fun _ _ _ _ => rfl
  have hge : ∀ w, (eqGuard .eql 9 (.tmp 6) (.tmp 7) X Y).run Try.prog w = .ok () w := fun w => by
    rcases hX with ⟨i, rfl⟩ | ⟨t, rfl⟩ <;> simp [eqGuard, go_sem]
  clear hX
  have b1 := (Below.refl w.heap.size w).alloc (Nat.le_refl _) (.cells #[.bool ans] 4)
  have q1 := al1 w (.cells #[.bool ans] 4)
  go_enter_defers Try.func33, Try.ntmps33
  go_wp2_with fail
  refine leaves_cons (f := 35) (args := #[.pointer (some ⟨w.heap.size, 0, none⟩)]) (by simp) (by simp [go_sem]) ?_
  refine (idleS_calls ⟨w.heap.size, 0, none⟩ _).mono ?_
  rintro e u' w'' ⟨rfl, rfl, rfl⟩
  have c0 := cell_of_row _ _ 0 _ _ _ q1
  simp at c0
  simp [Leaves, settle, results, Try.results33, go_sem, c0]
  exact b1
set_option maxRecDepth 100000 in
theorem hitS_calls (X Y : Value) (hY : One Y) (hX : One X) (ans : Bool) (he : ∀ w, (binOp .eql 9 X Y).run Try.prog w = .ok (.bool ans) w) (b : Nat) (w : World) (hx : w.heap[b]? = some (.cells #[X] 9 (0, 0))) :
    Calls Try.prog 32 #[Y, .pointer (some ⟨b, 0, none⟩)] w fun e w' => e = .returned (.bool ans) ∧ Below w.heap.size w w' := by
  have k := hide fun W => sameS_calls X Y hX ans he W
  have c0 := cell_of_row _ _ 0 _ _ _ hx
  simp at c0
  have f0 : w.frozen? ⟨b, 0, none⟩ = false := by simp [World.frozen?, hx]
  clear hx he hX hY
  go_enter Try.func32, Try.ntmps32
  go_wp2_with fail
  refine (unhide k _).mono ?_
  rintro e w1 ⟨rfl, b1⟩
  go_wp2
  go_ret
  exact ⟨rfl, b1⟩
set_option maxHeartbeats 1000000 in
set_option maxRecDepth 100000 in
theorem indexS_calls (xs : List (List UInt8)) (hn : xs.length ≤ 1000000) (x : (List UInt8)) (p : Option Addr) (c b0 : Nat) (w : World) (hB : VL w p (xs.map enS)) (hx : w.heap[b0]? = some (.cells #[enS x] 9 (0, 0))) :
    Calls Try.prog 31 #[.slice p xs.length c, .func (.func 32) #[] #[.pointer (some ⟨b0, 0, none⟩)]] w fun e w' => e = .returned (.int .i64 (pAt x xs)) ∧ Below w.heap.size w w' := by
  have HB := hide hB
  have HX := hide hx
  obtain ⟨n, hnn⟩ : ∃ n, xs.length = n := ⟨_, rfl⟩
  rw [hnn] at hn
  rw [hnn]
  have HN := hide hnn
  clear hB hnn hx
  go_enter Try.func31, Try.ntmps31
  go_wp2
  go_loopw [5, 8] (fun i5 i wr => ∃ j : Nat, j ≤ n ∧ i = .int .i64 (j : Int) ∧ Below w.heap.size w wr ∧ Hid (∀ i, i < j → xs[i]? ≠ some x)) (fun _ i _ => n - (intOf i).toNat)
  case atStart => exact ⟨0, by omega, rfl, Below.refl _ _, hide fun i hi => absurd hi (Nat.not_lt_zero _)⟩
  case round =>
    obtain ⟨j, hj, rfl, hb, hno⟩ := hrel
    by_cases hlt : j < n
    · have hd : decide (j < n) = true := by simpa using hlt
      have bk : (j : Int) < (n : Int) := by omega
      have hl : j < (xs.map enS).length := by rw [List.length_map, unhide HN]; exact hlt
      obtain ⟨b, off, rfl, hzb, hbr⟩ := (unhide HB).below hb (Nat.le_refl _) (by intro h0; rw [h0] at hl; simp at hl)
      have hr0 := hbr j hl
      obtain ⟨y, hy⟩ : ∃ y, xs[j]? = some y := ⟨_, List.getElem?_eq_getElem (by rw [unhide HN]; exact hlt)⟩
      rw [List.getElem?_map, hy, Option.map_some] at hr0
      have hit := hide (hitS_calls (enS x) (enS y) (oneS y) (oneS x) (decide (x = y)) (eqvS x y) b0 wr (Below.at hb (Array.getElem?_eq_some_iff.1 (unhide HX)).1 (unhide HX)))
      have HY := hide hy
      obtain ⟨ans, hans⟩ : ∃ ans, decide (x = y) = ans := ⟨_, rfl⟩
      rw [hans] at hit
      have Hans := hide hans
      clear hbr hy hans hzb hl
      generalize enS y = Y at *
      go_wp2_with fail
      refine (unhide hit).mono ?_
      rintro e w3 ⟨rfl, hb3⟩
      have bW3 := hb.trans (hb3.mono hb.size)
      clear hit hr0 hb3
      cases ans with
      | true =>
        go_wp2
        go_ret
        refine ⟨?_, bW3⟩
        rw [pAt_hit x xs j (by rw [of_decide_eq_true (unhide Hans)]; exact unhide HY) (unhide hno)]
        rfl
      | false =>
        go_wp2
        go_roundw
        case rel => exact ⟨j + 1, by omega, by go_num, bW3, hide fun i hi => by
          rcases Nat.lt_succ_iff_lt_or_eq.1 hi with h' | rfl
          · exact unhide hno i h'
          · rw [unhide HY]; exact fun h' => of_decide_eq_false (unhide Hans) (Option.some.inj h').symm⟩
        case measure => simp [intOf]; omega
    · have hd : decide (j < n) = false := by simpa using hlt
      go_wp2
      go_ret
      refine ⟨?_, hb⟩
      rw [pAt_miss x xs (fun i hi => unhide hno i (by have := unhide HN; omega))]
      rfl
set_option maxRecDepth 100000 in
theorem placeS_calls (xs : List (List UInt8)) (hn : xs.length ≤ 1000000) (x : (List UInt8)) (p : Option Addr) (c : Nat) (w : World) (hB : VL w p (xs.map enS)) :
    Calls Try.prog 27 #[.slice p xs.length c, enS x] w fun e w' => e = .returned (.int .i64 (pAt x xs)) ∧ Below w.heap.size w w' := by
  have hmf : ∀ (fn : Fn) (first cap : Array Value) (w : World), (Instr.makeFunc fn first cap).run Try.prog w = .ok (.func fn first cap) w := fun _ _ _ _ => rfl
  have q0 := al1 w (.cells #[enS x] 9)
  have b0 : Below w.heap.size w (w.alloc (.cells #[enS x] 9)) := Below.alloc (Below.refl _ _) (Nat.le_refl _) _
  have k := hide (indexS_calls xs hn x p c w.heap.size (w.alloc (.cells #[enS x] 9)) (hB.below b0 (Nat.le_refl _)) q0)
  generalize pAt x xs = R at *
  simp only [enS] at *
  clear hB q0
  go_enter Try.func27, Try.ntmps27
  go_wp2_with fail
  refine (unhide k).mono ?_
  rintro e w1 ⟨rfl, b1⟩
  have b2 := b0.trans (b1.mono b0.size)
  clear k b1 b0
  go_wp2
  go_ret
  exact ⟨rfl, b2⟩
set_option maxRecDepth 100000 in
theorem hasS_calls (xs : List (List UInt8)) (hn : xs.length ≤ 1000000) (x : (List UInt8)) (p : Option Addr) (c : Nat) (w : World) (hB : VL w p (xs.map enS)) :
    Calls Try.prog 23 #[.slice p xs.length c, enS x] w fun e w' => e = .returned (.bool (decide (x ∈ xs))) ∧ Below w.heap.size w w' := by
  have k := hide (placeS_calls xs hn x p c w hB)
  have e1 : decide (0 ≤ pAt x xs) = decide (x ∈ xs) := by have := pAt_neg x xs; by_cases hm : x ∈ xs <;> simp_all
  have E1 := hide e1
  obtain ⟨R, hR⟩ : ∃ R, pAt x xs = R := ⟨_, rfl⟩
  rw [hR] at k E1
  simp only [enS] at *
  clear hB e1 hR
  go_enter Try.func23, Try.ntmps23
  go_wp2_with fail
  refine (unhide k).mono ?_
  rintro e w1 ⟨rfl, b1⟩
  go_wp2
  go_ret
  exact ⟨by rw [← unhide E1]; rfl, b1⟩
set_option maxHeartbeats 1000000 in
set_option maxRecDepth 100000 in
theorem cloneS_calls (xs : List (List UInt8)) (hn : xs.length ≤ 1000000) (p : Option Addr) (c : Nat) (w : World) (hB : VL w p (xs.map enS)) :
    Calls Try.prog 26 #[.slice p xs.length c] w fun e w' => (∃ v, e = .returned v ∧ w'.ownsRow w.heap.size 9 1 v xs.length (xs.map enS)) ∧ Below w.heap.size w w' := by
  have q22 : ∀ (w : World) (a : Option Addr) (n c n' c' : Nat), (binOp .eql 41 (.slice a n c) (.slice none n' c')).run Try.prog w = .ok (.bool a.isNone) w := fun w a n c n' c' => Lib.run_eql_slice_nil w _ _ a n c n' c' Try.underlying41
  cases p with
  | none =>
    have h0 : xs = [] := by
      cases hBe : xs with
      | nil => rfl
      | cons x l =>
        obtain ⟨b, off, e, _⟩ := hB (by rw [hBe]; simp)
        cases e
    subst h0
    clear hB hn
    go_enter Try.func26, Try.ntmps26
    go_wp2
    go_ret
    exact ⟨⟨_, rfl, World.ownsRow_nil _ _ _ _⟩, Below.refl _ _⟩
  | some ad =>
    have HB := hide hB
    have HF := hide (fun (v : Value) (W : World) (h : W.ownsRow w.heap.size 9 1 v (0 + xs.length) ([] ++ xs.map enS)) => (by simpa using h : W.ownsRow w.heap.size 9 1 v xs.length (xs.map enS)))
    obtain ⟨n, hnn⟩ : ∃ n, xs.length = n := ⟨_, rfl⟩
    rw [hnn] at hn
    rw [hnn] at HF
    rw [hnn]
    have HN := hide (show (xs.map enS).length = n by rw [List.length_map, hnn])
    have HO := hide (show ∀ u ∈ xs.map enS, One u from fun u hu => by obtain ⟨y, _, rfl⟩ := List.mem_map.1 hu; exact oneS y)
    generalize xs.map enS = L at *
    have bA : Below w.heap.size w (w.alloc (.cells #[] 9)) := (Below.refl _ _).alloc (Nat.le_refl _) _
    have BA := hide bA
    clear hB hnn bA
    go_enter Try.func26, Try.ntmps26
    go_wp2_with (at_builtin; (refine wpList_append_v _ rfl 41 9 (.tmp 5) (.tmp 6) rfl Try.underlying41 infoS (by decide) w.heap.size _ 0 [] rfl (World.ownsRow_made w #[] 0 (Nat.le_refl _) (Nat.zero_le _) (by simp)) (by simp) L n (unhide HN) (unhide HO) ad c ((unhide HB).below (unhide BA) (Nat.le_refl _)) rfl (by omega) ?_); intro v' w1 hown hb1)
    go_ret
    exact ⟨⟨_, rfl, unhide HF _ _ hown⟩, (unhide BA).trans hb1⟩
end Go.Proofs.Ytljocohbdghpaaa
