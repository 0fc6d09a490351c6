/-
  WHAT digest's inputOf RETURNS; what Of returns where there is no log.
-/
/-
  A ROW LOADED WHOLE INSIDE A REGION THAT DRAWS ITS ORDER, as a step of the quiet walk. Over whatever program.
-/
/-
  A REGION THAT DRAWS ITS ORDER: quiet operations first (reads; calls that lay memory and turn none), all of which the rest waits for; the rest in whatever order is left to it. Over whatever program.
-/
/-
  THE DIGEST OF TWO DIGESTS, OF ANY DOMAIN, where there is no log.
-/
/-
  WHAT update's Claim AND Halt RETURN, where there is no log.
-/
/-
  KEYS UNDER ONE ROOT, PLAIN: a leaf's path climbs to the root.
-/
/-
  WHAT digest's Two AND merkle's node RETURN, where there is no log.
-/
/-
  LISTS OF DIGESTS IN MEMORY; WHAT merkle's standing RETURNS.
-/
/-
  == AND != OF TWO DIGESTS.
-/
/-
  WHAT merkle's Proves RETURNS.
-/
/-
  WHAT merkle's above RETURNS: the nodes of each two neighbours.
-/
/-
  WHAT keys' above RETURNS, where there is no log.
-/
/-
  WHAT lamport's Secret, Public AND Bit RETURN, where there is no log.
-/
/-
  WHAT lamport's Bit RETURNS.
-/
import Derived.Test.YtocibklkpnblgaaGreatDoorJ1
import Derived.Test.YtocibklkpnblgaaGreatDoorJ0
import Derived.Test.YtocibklkpnblgaaGreatDoorJ4
import Derived.Laws.Rows
import Derived.Deep.MidRow
import Derived.Test.YtocibklkpnblgaaGreatDoorJ3
namespace Go.Proofs.YtocibklkpnblgaaGreatDoor
open Go.RowKit
set_option linter.unusedSimpArgs false
set_option linter.unusedVariables false

/-- A domain's and parts' input. -/
def pInput (dom : Nat) (parts : List (List UInt8)) : List UInt8 := pBig dom 1 ++ parts.flatMap pText4
/-- Their digest. -/
def pOf (dom : Nat) (parts : List (List UInt8)) : List UInt8 := pSum [pInput dom parts]
theorem pOf_length (dom : Nat) (parts : List (List UInt8)) : (pOf dom parts).length = 32 := pSum_length _
theorem flatText_len (M : Nat) : ∀ parts : List (List UInt8), (∀ p ∈ parts, p.length ≤ M) → (parts.flatMap pText4).length ≤ (4 + M) * parts.length
  | [], _ => by simp
  | p :: ps, h => by
    have h1 := h p (by simp)
    have h2 := flatText_len M ps fun q hq => h q (by simp [hq])
    rw [List.flatMap_cons, List.length_append, pText4_length, List.length_cons, Nat.mul_succ]; omega
theorem pInput_len (dom : Nat) (parts : List (List UInt8)) (h : ∀ p ∈ parts, p.length ≤ 100000000) (hn : parts.length ≤ 1000) : (pInput dom parts).length ≤ 200000000000 := by
  have := flatText_len 100000000 parts h
  have h2 : (4 + 100000000) * parts.length ≤ (4 + 100000000) * 1000 := Nat.mul_le_mul_left _ hn
  unfold pInput
  rw [List.length_append, pBig_length]; omega
theorem strCells_str (m : List UInt8) : Lib.strCells (str m) = Lib.byteCells m := by simp [Lib.strCells, Lib.byteCells, str]
theorem in_bound (M : Nat) (parts : List (List UInt8)) (k : Nat) (h : ∀ p ∈ parts, p.length ≤ M) (hn : parts.length ≤ 1000) : ((parts.take k).flatMap pText4).length ≤ (4 + M) * 1000 := by
  have := flatText_len M (parts.take k) fun p hp => h p (List.mem_of_mem_take hp)
  refine Nat.le_trans this (Nat.mul_le_mul_left _ ?_)
  rw [List.length_take]; omega
set_option maxHeartbeats 2000000 in
set_option maxRecDepth 100000 in
theorem inputOf_calls (dom : Nat) (hd : dom < 256) (parts : List (List UInt8)) (hp : ∀ p ∈ parts, p.length ≤ 100000000) (hn : parts.length ≤ 1000) (a : Option Addr) (cap : Nat) (w : World) (hs : StrsAt w a parts) :
    Calls Tryz.prog 73 #[.int .u8 (dom : Int), .slice a parts.length cap] w fun e w' => e = .returned (.string (str (pInput dom parts))) ∧ Below w.heap.size w w' := by
  have hb0 : ∀ k, ((parts.take k).flatMap pText4).length ≤ 200000000000 := fun k => Nat.le_trans (in_bound _ parts k hp hn) (by decide)
  have HB0 := hide hb0
  have HP := hide hp
  have HS := hide hs
  obtain ⟨R, hR⟩ : ∃ R, Hid (pInput dom parts = R) := ⟨_, hide rfl⟩
  rw [unhide hR]
  clear hb0 hp hs
  go_enter Tryz.func73, Tryz.ntmps73
  have hbld := Lib.IsBuilderF.of (Lib.fresh_isBuilder 110 5 w)
  go_wp2_with fail
  refine (wbyte_calls dom hd _).mono ?_
  rintro e w1 ⟨rfl, b1⟩
  have hbd1 := isBuilder_below hbld b1
  have hb1 : Below w.heap.size w w1 := ((Below.refl _ w).alloc (Nat.le_refl _) _).trans (b1.mono (by simp))
  go_wp2_with fail
  refine (writeString_calls w.heap.size w.heap.size _ _ _ hbd1 (by rw [str_size, pBig_length]; simp) hb1.size).mono ?_
  rintro e w2 ⟨rfl, h2, b2, k2⟩
  rw [strCells_str, List.nil_append] at h2
  have hb2 := hb1.trans b2
  clear hbld b1 hbd1 hb1 b2 k2
  go_wp2
  go_loopw [7, 13] (fun _ i wr => ∃ k : Nat, k ≤ parts.length ∧ i = .int .i64 (k : Int) ∧ Lib.IsBuilderF 110 5 w.heap.size w.heap.size (Lib.byteCells (pBig dom 1 ++ (parts.take k).flatMap pText4)) wr ∧ Below w.heap.size w wr) (fun _ i _ => parts.length - (intOf i).toNat)
  case atStart => exact ⟨0, by omega, rfl, by rw [List.take_zero, List.flatMap_nil, List.append_nil]; exact Or.inr h2, hb2⟩
  case round =>
    clear h2 hb2
    obtain ⟨k, hk, rfl, hB, hb⟩ := hrel
    have hz := hb.size
    by_cases hlt : k < parts.length
    · have hd1 : decide ((k : Int) < (parts.length : Int)) = true := by simp; omega
      have bk : (0 : Int) ≤ k ∧ (k : Int) < (parts.length : Int) := by omega
      obtain ⟨g, o, rfl, hg, hc⟩ : ∃ b o, a = some ⟨b, o, none⟩ ∧ b < w.heap.size ∧ ∀ j, j < parts.length → w.cell? ⟨b, o + j, none⟩ = some (.string (str (parts.getD j []))) := by
        rcases unhide HS with h | h
        · rw [h] at hlt; simp at hlt
        · exact h
      have c : wr.cell? ⟨g, o + k, none⟩ = some (.string (str (parts.getD k []))) := by rw [hb.cell (p := ⟨g, o + k, none⟩) hg]; exact hc k hlt
      have hpk : (parts.getD k []).length ≤ 100000000 := by
        rw [List.getD_eq_getElem?_getD, List.getElem?_eq_getElem hlt]; exact unhide HP _ (List.getElem_mem _)
      have hnew : pBig dom 1 ++ (parts.take (k + 1)).flatMap pText4 = (pBig dom 1 ++ (parts.take k).flatMap pText4) ++ pText4 (parts.getD k []) := by
        rw [take_snoc' parts k [] hlt, List.flatMap_append]; simp
      have hl0 := unhide HB0 k
      have hpl := pText4_length (parts.getD k [])
      have hbl := pBig_length dom 1
      have hal : (pBig dom 1 ++ (parts.take k).flatMap pText4).length ≤ 200000000001 := by rw [List.length_append]; omega
      generalize pBig dom 1 ++ (parts.take k).flatMap pText4 = acc at *
      generalize parts.getD k [] = pt at *
      have ct := fun w => wtext_calls pt (by omega) w
      generalize pText4 pt = tx at *
      have Hnew := hide hnew
      clear hc hnew hbl hl0
      go_wp2_with fail
      refine (ct _).mono ?_
      rintro e w3 ⟨rfl, b3⟩
      have hB3 := isBuilder_below hB b3
      have hb3 := hb.trans (b3.mono hz)
      go_wp2_with fail
      refine (writeString_calls w.heap.size w.heap.size _ _ _ hB3 (by rw [str_size, Lib.byteCells_length]; omega) hb3.size).mono ?_
      rintro e w4 ⟨rfl, h4, b4, k4⟩
      rw [strCells_str, ← Lib.byteCells_append] at h4
      go_wp2
      go_roundw
      case rel => exact ⟨k + 1, by omega, by go_num, by rw [unhide Hnew]; exact Or.inr h4, hb3.trans b4⟩
      case measure => simp [intOf]; omega
    · have hd1 : decide ((k : Int) < (parts.length : Int)) = false := by simp; omega
      rw [List.take_of_length_le (by omega)] at hB
      have hR' : pBig dom 1 ++ parts.flatMap pText4 = R := unhide hR
      rw [hR'] at hB
      clear hR'
      go_wp2_with fail
      refine (string_calls w.heap.size w.heap.size R _ hB (by omega)).mono ?_
      rintro e w3 ⟨rfl, _, b3, _⟩
      go_wp2
      go_ret
      exact ⟨rfl, hb.trans b3⟩
/-- Strings in a row of memory that was just made. -/
theorem strsAt_one (w : World) (l : List UInt8) (t : TypeId) : StrsAt (w.alloc (.cells #[.string (str l)] t)) (some ⟨w.heap.size, 0, none⟩) [l] := by
  refine .inr ⟨w.heap.size, 0, rfl, by simp, fun j hj => ?_⟩
  have : j = 0 := by simp at hj; omega
  subst this
  go_simp
theorem digInfo (l : List UInt8) (h : l.length = 32) : (Tryz.prog.info? 24).map (·.size) = some (bc l).size := by rw [bc_size, h]; kernel_rfl
theorem zeroSize (l : List UInt8) (h : l.length = 32) : (bc (List.replicate 32 (0 : UInt8))).size = (bc l).size := by rw [bc_size, bc_size, h]; rfl
theorem noteNil_calls (s : ByteArray) (cs : Array Value) (w : World) :
    Calls Tryz.prog 75 #[.pointer none, .string s, .agg cs] w fun e w' => e = .returned (.tuple #[]) ∧ Below w.heap.size w w' := by
  go_enter Tryz.func75, Tryz.ntmps75
  go_wp2
  exact bodyPost_ret (results_none rfl _ _ _) rfl ⟨rfl, (Below.refl _ _).alloc (Nat.le_refl _) _⟩
set_option maxHeartbeats 2000000 in
set_option maxRecDepth 100000 in
theorem ofNil_calls (dom : Nat) (hd : dom < 256) (parts : List (List UInt8)) (hp : ∀ p ∈ parts, p.length ≤ 100000000) (hn : parts.length ≤ 1000) (a : Option Addr) (cap : Nat) (w : World) (hs : StrsAt w a parts) (tabs : Tabs w) :
    Calls Tryz.prog 60 #[.pointer none, .int .u8 (dom : Int), .slice a parts.length cap] w fun e w' => e = .returned (.agg (bc (pOf dom parts))) ∧ Below w.heap.size w w' := by
  have ci := fun w hs => inputOf_calls dom hd parts hp hn a cap w hs
  have hil := pInput_len dom parts hp hn
  have hol := pOf_length dom parts
  unfold pOf at *
  generalize pInput dom parts = I at *
  have cs := fun g w hs tabs => sum_calls [I] (by simp; omega) (by simp) (some ⟨g, 0, none⟩) 1 w hs tabs
  have hi1 := digInfo (pSum [I]) hol
  have hz1 := zeroSize (pSum [I]) hol
  have ho1 := bc_oneCell (pSum [I])
  generalize pSum [I] = D at *
  have Ci := hide ci
  have Cs := hide cs
  have HS := hide hs
  have HT := hide tabs
  clear ci cs hs tabs hp
  go_enter Tryz.func60, Tryz.ntmps60
  go_wp2_with fail
  have hb0 : Below w.heap.size w (w.alloc (.cells (bc (List.replicate 32 0)) 24)) := (Below.refl _ w).alloc (Nat.le_refl _) _
  refine (unhide Ci _ ((unhide HS).below hb0 (Nat.le_refl _))).mono ?_
  rintro e w1 ⟨rfl, b1⟩
  have q0 : w1.heap[w.heap.size]? = some (.cells (bc (List.replicate 32 0)) 24 (0, 0)) := Below.at b1 (by simp) (al1 _ _)
  have hb1 : Below w.heap.size w w1 := hb0.trans (b1.mono (by simp))
  have z1 : w.heap.size < w1.heap.size := by have := b1.size; simp at this; omega
  clear hb0 b1
  go_wp2_with fail
  refine (unhide Cs _ _ (strsAt_one w1 I _) (((unhide HT).below hb1 (Nat.le_refl _)).below' ((Below.refl _ w1).alloc (Nat.le_refl _) _))).mono ?_
  rintro e w2 ⟨rfl, b2⟩
  have q0' := Below.at b2 (by simp; omega) ((Below.heap_alloc w1 (.cells #[.string (str I)] 9) _ z1).trans q0)
  have hb2 : Below w.heap.size w w2 := (hb1.alloc (by omega) _).trans (b2.mono (by simp; omega))
  have z2 : w.heap.size < w2.heap.size := by have := b2.size; simp at this; omega
  clear hb1 b2 q0 Cs Ci
  go_wp2_with (first
    | (refine wpList_store_row rfl 24 (.tmp 8) (.tmp 14) rfl w2.heap.size _ rfl rfl 24 _ (al1 _ _) hi1 hz1 ho1 ?_)
    | (refine wpList_load_row rfl 24 (.tmp 8) rfl w2.heap.size rfl 24 _ (0, 0) _ (setRow_heap _ _ _ (bc D) _ _ (al1 w2 (.cells (bc (List.replicate 32 0)) 24))) Tryz.underlying24 rfl hi1 ?_))
  have q8 := setRow_heap _ _ _ (bc D) _ _ (al1 w2 (.cells (bc (List.replicate 32 0)) 24))
  have q9 := (setRow_other (w2.alloc (.cells (bc (List.replicate 32 0)) 24)) w2.heap.size w.heap.size (bc D) (by omega)).trans ((Below.heap_alloc w2 _ _ z2).trans q0')
  have hb3 := below_setRow (hb2.alloc (by omega) (.cells (bc (List.replicate 32 0)) 24)) (Nat.le_of_lt z2) (bc D)
  have z3 : w2.heap.size < (w2.alloc (.cells (bc (List.replicate 32 0)) 24)).heap.size := by simp
  refine (noteNil_calls _ _ _).mono ?_
  rintro e w4 ⟨rfl, b4⟩
  have q8' := Below.at b4 (by rw [setRow_size, World.size_alloc]; omega) q8
  have q9' := Below.at b4 (by rw [setRow_size, World.size_alloc]; omega) q9
  have hb4 := hb3.trans (b4.mono (by rw [setRow_size, World.size_alloc]; omega))
  clear q8 q9 hb3 b4
  go_wp2_with (first
    | (refine wpList_load_row rfl 24 (.tmp 8) rfl w2.heap.size rfl 24 _ (0, 0) _ q8' Tryz.underlying24 rfl hi1 ?_)
    | (refine wpList_store_row rfl 24 (.tmp 6) (.tmp 19) rfl w.heap.size _ rfl rfl 24 _ q9' hi1 hz1 ho1 ?_))
  exact bodyPost_ret (results_cell_row rfl _ _ w.heap.size _ _ _ _ rfl (setRow_heap _ _ _ _ _ _ q9') Tryz.underlying24 rfl hi1) rfl ⟨rfl, below_setRow hb4 (Nat.le_refl _) _⟩
end Go.Proofs.YtocibklkpnblgaaGreatDoor

namespace Go.Proofs.YtocibklkpnblgaaGreatDoor
open Go Go.RowKit

theorem wpQuiet_load_row {P : Program} {ops : Array Oper} {C : World → Prop} {Q : Act → Prop} {a : Act} {o : Oper} {rest : List Oper} (hw : Region.wanted o (yielded ops a.tmps) = true) (ty : TypeId) (x : Operand) (ho : o.op = .load ty x)
    (g : Nat) (hx : a.eval x = .pointer (some ⟨g, 0, none⟩)) (t : TypeId) (cs : Array Value) (fr : Nat × Nat) (d : TypeDesc) (hg : ∀ w, C w → w.heap[g]? = some (.cells cs t fr))
    (hu : P.underlying ty = some d) (hd : (match d with | .struct _ | .array _ _ => true | _ => false) = true) (hi : (P.info? ty).map (·.size) = some cs.size)
    (h : wpQuiet P ops C Q rest (a.put o.dst (.agg cs))) : wpQuiet P ops C Q (o :: rest) a := by
  show if _ then _ else _
  rw [if_pos hw]
  refine ⟨.agg cs, fun w hC => ?_, h⟩
  have hl := run_loadVar_row w g t ty cs fr d (hg w hC) hu hd hi
  unfold Oper.quietAt execOp
  simp only [ho, hx, Instr.loadAt, Instr.sureAddr, Sem.run_bind, Sem.run_pure, Result.andThen_ok, hl]
  exact ⟨rfl, rfl⟩
end Go.Proofs.YtocibklkpnblgaaGreatDoor

namespace Go.Proofs.YtocibklkpnblgaaGreatDoor
open Go Go.RowKit
section
variable {P : Program} {ops : Array Oper} {md : Region.Mode} {C : World → Prop}

/-- Each of those from c on of the first n but the last is waited for by a later one of them; all behind them wait for the last, or for one behind them. -/
def headB (md : Region.Mode) (ops : Array Oper) (c n : Nat) : Bool :=
  decide (c < n) && ((List.range (n - 1)).all fun i => decide (i < c) || (List.range n).any fun j => decide (i < j) && Region.waitsFor md ops j i) &&
  ((List.range ops.size).all fun t => decide (t < n) || Region.waitsFor md ops t (n - 1) || (List.range t).any fun j => decide (n ≤ j) && Region.waitsFor md ops t j)

theorem last_open {c n : Nat} {listed : Array Bool} (h : headB md ops c n = true) (hn : n ≤ ops.size) (inv : HeadInv md ops n listed) :
    ∀ (d i : Nat), n - i = d → c ≤ i → i < n → listed.getD i true = false → listed.getD (n - 1) true = false := by
  intro d
  induction d using Nat.strongRecOn with
  | _ d ih =>
    intro i hd hci hi hun
    by_cases hl : i = n - 1
    · rw [← hl]; exact hun
    · simp only [headB, Bool.and_eq_true] at h
      have h1 := List.all_eq_true.1 h.1.2 i (List.mem_range.2 (by omega))
      simp only [Bool.or_eq_true, decide_eq_true_eq] at h1
      replace h1 := h1.resolve_left (by omega)
      obtain ⟨j, hj, hj2⟩ := List.any_eq_true.1 h1
      simp only [Bool.and_eq_true, decide_eq_true_eq] at hj2
      have hjn := List.mem_range.1 hj
      obtain ⟨oj, hoj, e, he, hb, hon⟩ := Region.waitsFor_spec hj2.2
      cases hlj : listed.getD j false with
      | true =>
        have h2 := inv.closed j oj hoj hlj e he hb
        rw [hon, getD_both hun] at h2
        cases h2
      | false =>
        exact ih (n - j) (by omega) j rfl (by omega) hjn (getD_in (by rw [inv.size]; omega) hlj)
theorem tail_open {c n : Nat} {listed : Array Bool} (h : headB md ops c n = true) (hn : n ≤ ops.size) (inv : HeadInv md ops n listed) (i : Nat) (hci : c ≤ i) (hi : i < n) (hun : listed.getD i true = false) (t : Nat) (ht : n ≤ t) :
    t ∉ Region.ready md ops listed := by
  intro hr
  have hlast := last_open h hn inv _ i rfl hci hi hun
  obtain ⟨_, ot, hot, hall⟩ := mem_ready.1 hr
  have htlt : t < ops.size := (Array.getElem?_eq_some_iff.1 hot).1
  simp only [headB, Bool.and_eq_true] at h
  have h1 := List.all_eq_true.1 h.2 t (List.mem_range.2 htlt)
  simp only [Bool.or_eq_true, decide_eq_true_eq] at h1
  rcases h1 with (h1 | h1) | h1
  · omega
  · obtain ⟨o', ho', e, he, hb, hon⟩ := Region.waitsFor_spec h1
    have : o' = ot := Option.some.inj (ho'.symm.trans hot)
    subst this
    have h2 := hall e he hb
    rw [hon, getD_both hlast] at h2
    cases h2
  · obtain ⟨j, hj, hj2⟩ := List.any_eq_true.1 h1
    simp only [Bool.and_eq_true, decide_eq_true_eq] at hj2
    obtain ⟨o', ho', e, he, hb, hon⟩ := Region.waitsFor_spec hj2.2
    have : o' = ot := Option.some.inj (ho'.symm.trans hot)
    subst this
    have h2 := hall e he hb
    have hjt := List.mem_range.1 hj
    rw [hon, getD_both (inv.tail j hj2.1 (by omega))] at h2
    cases h2
theorem headQ_first2 {c n i : Nat} {oi : Oper} {v : Value} {L : Array Bool → Act → Prop} (hi : ops[i]? = some oi) (hsel : ∀ (j : Nat) (o : Oper) cs b, ops[j]? = some o → o.op ≠ .select cs b)
    (hB : headB md ops c n = true) (hn : n ≤ ops.size) (hci : c ≤ i) (hin : i < n)
    (hend : ∀ listed a, L listed a → ∀ j ∈ Region.ready md ops listed, n ≤ j) (f : Nat) :
    ∀ (listed : Array Bool) (a : Act), HeadInv md ops n listed →
      (∀ j oj, ops[j]? = some oj → j ≠ i → listed.getD j true = false → (∀ e ∈ oj.after, Region.binds md e = true → e.on ≠ i) → oi.apart ops oj = true) →
      i ∈ Region.ready md ops listed → YieldsIn P ops C oi v a →
      headQ P md ops C n L f (listed.setIfInBounds i true) (a.put oi.dst v) → headQ P md ops C n L (f + 1) listed a := by
  induction f with
  | zero =>
    intro listed a inv _ hr hy H
    refine ⟨fun h => (by rw [h] at hr; cases hr), fun j hj => ?_⟩
    have hjn : j < n := Nat.lt_of_not_le fun h => tail_open hB hn inv i hci hin (mem_ready.1 hr).1 j h hj
    refine ⟨hjn, ?_⟩
    by_cases e : j = i
    · subst e; exact hy.qOp hi H
    · exact absurd (hend _ _ H j (ready_mono hj e)) (by omega)
  | succ f ih =>
    intro listed a inv apart hr hy H
    refine ⟨fun h => (by rw [h] at hr; cases hr), fun j hj => ?_⟩
    have hjn : j < n := Nat.lt_of_not_le fun h => tail_open hB hn inv i hci hin (mem_ready.1 hr).1 j h hj
    refine ⟨hjn, ?_⟩
    by_cases e : j = i
    · subst e; exact hy.qOp hi H
    · obtain ⟨hun, oj, hoj, hall⟩ := mem_ready.1 hj
      have free : ∀ e ∈ oj.after, Region.binds md e = true → e.on ≠ i := fun e he hb heq => by
        have h1 := hall e he hb
        rw [heq, getD_both (mem_ready.1 hr).1] at h1
        cases h1
      have step := qOp_put hoj (apart j oj hoj e hun free) (fun cs b => hsel i oi cs b hi) (fun cs b => hsel j oj cs b hoj) hy (H.2 j (ready_mono hj e)).2
      refine qOp_mono (fun a' h3 => ih (listed.setIfInBounds j true) a' (inv.set hj hjn) (fun k ok hk hki hk2 hno => apart k ok hk hki ?_ hno) (ready_mono hr (Ne.symm e)) h3.1 ?_) step
      · by_cases hjk : j = k
        · subst hjk; exact hun
        · rw [getD_set_ne true hjk] at hk2; exact hk2
      · rw [Array.setIfInBounds_comm _ _ e]; exact h3.2

/-- The first so many taken in the text's order: each may come up, and is free; then only what lies behind them may. -/
def lexFirst (md : Region.Mode) (ops : Array Oper) (n : Nat) : Nat → Nat → Array Bool → Bool
  | 0, _, listed => (Region.ready md ops listed).all fun j => decide (n ≤ j)
  | f + 1, k, listed => (Region.ready md ops listed).contains k && Region.free md ops listed k && lexFirst md ops n f (k + 1) (listed.setIfInBounds k true)
def marks : Nat → Nat → Array Bool → Array Bool
  | 0, _, listed => listed
  | f + 1, k, listed => marks f (k + 1) (listed.setIfInBounds k true)
theorem headQ_lex2 {c n : Nat} {R : Act → Prop} (hsel : Region.noSelect ops = true) (hB : headB md ops c n = true) (hn : n ≤ ops.size) :
    ∀ (l : List Oper) (k : Nat) (listed : Array Bool) (a : Act), c ≤ k → (∀ j, j < l.length → l[j]? = ops[k + j]?) → k + l.length = n → HeadInv md ops n listed →
    lexFirst md ops n l.length k listed = true → wpQuiet P ops C R l a →
    headQ P md ops C n (fun listed' a' => (listed' = marks l.length k listed ∧ ∀ j ∈ Region.ready md ops listed', n ≤ j) ∧ R a') l.length listed a
  | [], k, listed, a, _, _, hk, _, hL, h => by
    refine ⟨⟨rfl, fun j hj => ?_⟩, h⟩
    have := List.all_eq_true.1 hL j hj
    simpa using this
  | o :: l, k, listed, a, hck, hl, hk, inv, hL, h => by
    have h0 : ops[k]? = some o := by simpa using (hl 0 (by simp)).symm
    simp only [List.length_cons, lexFirst, Bool.and_eq_true] at hL
    obtain ⟨⟨hr, hf⟩, hL'⟩ := hL
    have hkn : k < n := by simp only [List.length_cons] at hk; omega
    have hr' : k ∈ Region.ready md ops listed := by simpa using hr
    obtain ⟨v, hy, hK⟩ := yieldsIn_of_qOp (C := C) (K := wpQuiet P ops C R l) h0 (by unfold qOp; simp only [h0]; exact h)
    refine headQ_first2 h0 (Region.noSelect_spec hsel) hB hn hck hkn (fun _ _ hL => hL.1.2) l.length listed a inv (Region.free_spec h0 hf) hr' hy ?_
    exact headQ_lex2 hsel hB hn l (k + 1) _ _ (by omega) (fun j hj => by have := hl (j + 1) (by simp; omega); simpa [Nat.add_assoc, Nat.add_comm 1 j] using this) (by simp only [List.length_cons] at hk; omega) (inv.set hr' hkn) hL' hK
/-- The first so many may come up one behind the other. -/
def lexPre (md : Region.Mode) (ops : Array Oper) : Nat → Nat → Array Bool → Bool
  | 0, _, _ => true
  | f + 1, k, listed => (Region.ready md ops listed).contains k && lexPre md ops f (k + 1) (listed.setIfInBounds k true)
theorem pre_inv {n : Nat} : ∀ (f k : Nat) (listed : Array Bool), k + f ≤ n → HeadInv md ops n listed → lexPre md ops f k listed = true → HeadInv md ops n (marks f k listed)
  | 0, _, _, _, inv, _ => inv
  | f + 1, k, listed, hk, inv, h => by
    simp only [lexPre, Bool.and_eq_true] at h
    exact pre_inv f (k + 1) _ (by omega) (inv.set (by simpa using h.1) (by omega)) h.2
end
/-- The check of a region whose first c have come up, and whose next go first. -/
def firstB (ops : Array Oper) (c n : Nat) : Bool :=
  Region.noSelect ops && decide (n ≤ ops.size) && headB .any ops c n && lexPre .any ops c 0 (Array.replicate ops.size false) && lexFirst .any ops n (n - c) c (marks c 0 (Array.replicate ops.size false))
theorem marks_add : ∀ (f g k : Nat) (listed : Array Bool), marks g (k + f) (marks f k listed) = marks (f + g) k listed
  | 0, g, k, listed => by simp [marks]
  | f + 1, g, k, listed => by
    rw [show f + 1 + g = (f + g) + 1 by omega]
    show marks g (k + (f + 1)) (marks f (k + 1) _) = marks (f + g) (k + 1) _
    rw [← marks_add f g (k + 1), show k + (f + 1) = k + 1 + f by omega]
/-- OPERATIONS IN WHATEVER ORDER: the first c have come up; those up to n quiet, walked in the text's order; what is left in whatever order, from whatever world in which all that lay there lies as it lay. -/
theorem wpAny_below_head {P : Program} {Q : Exit → Act → World → Prop} {a : Act} {w : World} {l : List Oper} (c n : Nat) (hB : firstB l.toArray c n = true)
    (h : wpQuiet P l.toArray (fun w' => ∃ p : Regrown, w' = Sort.grow (redrawn w p.d) p.os) (fun a' => ∀ w', Below w.heap.size w w' → wpAny P .any l.toArray Q (l.length - n) (marks n 0 (Array.replicate l.length false)) a' w') ((l.take n).drop c) a) :
    wpAny P .any l.toArray Q (l.length - c) (marks c 0 (Array.replicate l.length false)) a w := by
  simp only [firstB, Bool.and_eq_true, decide_eq_true_eq] at hB
  obtain ⟨⟨⟨⟨hsel, hn⟩, hh⟩, hpre⟩, hlex⟩ := hB
  have hcn : c < n := by simp only [headB, Bool.and_eq_true, decide_eq_true_eq] at hh; exact hh.1.1
  have hn' : n ≤ l.length := by simpa using hn
  have htl : ((l.take n).drop c).length = n - c := by simp; omega
  have inv0 : HeadInv .any l.toArray n (Array.replicate l.toArray.size false) :=
    ⟨by simp, fun j oj _ hl => (by rw [getD_replicate_false] at hl; cases hl), fun t _ ht => getD_in (by simpa using ht) (getD_replicate_false _ _)⟩
  have inv := pre_inv c 0 _ (by omega) inv0 hpre
  have H := headQ_lex2 (C := fun w' => ∃ p : Regrown, w' = Sort.grow (redrawn w p.d) p.os) (md := .any) hsel hh hn ((l.take n).drop c) c _ a (Nat.le_refl _) (fun j hj => by
    have hj' : c + j < n := by rw [htl] at hj; omega
    simp [List.getElem?_drop, hj']) (by rw [htl]; omega) inv (by rw [htl]; exact hlex) h
  have fin := any_of_headQ (Q := Q) (g := l.toArray.size - n) (fun listed a' w' hw' hL => by
    obtain ⟨⟨rfl, _⟩, hR⟩ := hL
    obtain ⟨p, rfl⟩ := hw'
    have := hR _ (below_regrown w p.d p.os)
    have e := marks_add c (n - c) 0 (Array.replicate l.toArray.size false)
    rw [Nat.zero_add, show c + (n - c) = n by omega] at e
    rw [htl, e]
    simpa using this) _ _ _ w ⟨⟨w.drawn, #[]⟩, by rw [Sort.grow_empty]; rfl⟩ H
  rw [htl, show n - c + (l.toArray.size - n) = l.length - c by simp; omega] at fin
  simpa using fin
theorem wpQuiet_mono {P : Program} {ops : Array Oper} {C : World → Prop} {R R' : Act → Prop} (hR : ∀ a, R a → R' a) : ∀ (l : List Oper) (a : Act), wpQuiet P ops C R l a → wpQuiet P ops C R' l a
  | [], a, h => hR a h
  | o :: l, a, h => by
    unfold wpQuiet at h ⊢
    split
    · rename_i hw
      rw [if_pos hw] at h
      exact Oper.quiet_mono (fun a' h' => wpQuiet_mono hR l a' h') h
    · rename_i hw
      rw [if_neg hw] at h
      exact wpQuiet_mono hR l _ h
/-- A REGION THAT DRAWS: the first n operations quiet, walked in the text's order; what is left in whatever order, from whatever world in which all that lay there lies as it lay. -/
theorem wp_region_below_head {P : Program} {id : Nat} {Q : Exit → Act → World → Prop} {a : Act} {w : World} {l : List Oper} (n : Nat) (hm : P.follows .mixedOrders = true) (hB : firstB l.toArray 0 n = true)
    (h : wpQuiet P l.toArray (fun w' => ∃ p : Regrown, w' = Sort.grow (redrawn w p.d) p.os) (fun a' => ∀ w', Below w.heap.size w w' → wpAny P .any l.toArray Q (l.length - n) (marks n 0 (Array.replicate l.length false)) a' w') (l.take n) a) :
    (Code.region id l.toArray true).wp P Q a w := by
  refine wp_region_any hm ?_
  have e : ∀ w', Below { w with drawn := w.drawn + 1 }.heap.size { w with drawn := w.drawn + 1 } w' → Below w.heap.size w w' := fun w' hb => ⟨hb.os, hb.tape, hb.output, hb.size, hb.block⟩
  have hq : wpQuiet P l.toArray (fun w' => ∃ p : Regrown, w' = Sort.grow (redrawn { w with drawn := w.drawn + 1 } p.d) p.os) (fun a' => ∀ w', Below { w with drawn := w.drawn + 1 }.heap.size { w with drawn := w.drawn + 1 } w' → wpAny P .any l.toArray Q (l.length - n) (marks n 0 (Array.replicate l.length false)) a' w') (l.take n) a :=
    wpQuiet_mono (fun a' H w' hb => H w' (e w' hb)) (l.take n) a h
  have := wpAny_below_head (P := P) (Q := Q) (a := a) (w := { w with drawn := w.drawn + 1 }) 0 n hB hq
  simpa [marks] using this
/-- The last operations of a region, whose order is forced. -/
theorem wpAny_rest {P : Program} {md : Region.Mode} {l : List Oper} {Q : Exit → Act → World → Prop} {listed : Array Bool} {a : Act} {w : World} (k : Nat)
    (hB : Region.seqB md l.toArray (l.length - k) k listed = true) (h : wpList P l.toArray Q (l.drop k) a w) : wpAny P md l.toArray Q (l.length - k) listed a w := by
  have := wpAny_of_seq (P := P) (md := md) (ops := l.toArray) (Q' := Q) (l.drop k) k listed a w (fun j => by simp [List.getElem?_drop]) (by simpa using hB) h
  simpa using this
/-- The last operation of a region. -/
theorem wpAny_last {P : Program} {md : Region.Mode} {l : List Oper} {Q : Exit → Act → World → Prop} {listed : Array Bool} {a : Act} {w : World} (k : Nat) (o : Oper) (ho : l[k]? = some o) (hk : l.length = k + 1)
    (hB : Region.seqB md l.toArray 1 k listed = true) (h : wpList P l.toArray Q [o] a w) : wpAny P md l.toArray Q 1 listed a w := by
  refine wpAny_of_seq [o] k listed a w (fun j => ?_) hB h
  cases j with
  | zero => simpa using ho.symm
  | succ j => simp; omega
end Go.Proofs.YtocibklkpnblgaaGreatDoor

namespace Go.Proofs.YtocibklkpnblgaaGreatDoor
open Go.RowKit
set_option linter.unusedSimpArgs false
set_option linter.unusedVariables false

theorem strsAt_pair (w : World) (l0 l1 : List UInt8) (t : TypeId) : StrsAt (w.alloc (.cells #[.string (str l0), .string (str l1)] t)) (some ⟨w.heap.size, 0, none⟩) [l0, l1] := by
  refine .inr ⟨w.heap.size, 0, rfl, by simp, fun j hj => ?_⟩
  match j, hj with
  | 0, _ => go_simp
  | 1, _ => go_simp
  | j + 2, hj => simp at hj; omega
set_option maxHeartbeats 2000000 in
set_option maxRecDepth 100000 in
theorem twoD_calls (dom : Nat) (hdom : dom < 256) (a b : List UInt8) (ha : a.length = 32) (hb : b.length = 32) (w : World) (tabs : Tabs w) :
    Calls Tryz.prog 63 #[.pointer none, .int .u8 (dom : Int), .agg (bc a), .agg (bc b)] w fun e w' => e = .returned (.agg (bc (pOf dom [a, b]))) ∧ Below w.heap.size w w' := by
  have co := fun g w hs tabs => ofNil_calls dom hdom [a, b] (by simp; omega) (by simp) (some ⟨g, 0, none⟩) 2 w hs tabs
  have hia := digInfo a ha
  have hib := digInfo b hb
  have hi1 := digInfo (pOf dom [a, b]) (pOf_length dom [a, b])
  have hz1 := zeroSize (pOf dom [a, b]) (pOf_length dom [a, b])
  have ho1 := bc_oneCell (pOf dom [a, b])
  have ca := fun w => wdigest_calls a ha w
  have cb := fun w => wdigest_calls b hb w
  generalize pOf dom [a, b] = D at *
  have A3 := hide (al3 w (.cells (bc a) 24) (.cells (bc b) 24) (.cells (bc (List.replicate 32 0)) 24))
  have B3 := hide (bel3 w (.cells (bc a) 24) (.cells (bc b) 24) (.cells (bc (List.replicate 32 0)) 24))
  have S3 : Hid ((((w.alloc (.cells (bc a) 24)).alloc (.cells (bc b) 24)).alloc (.cells (bc (List.replicate 32 0)) 24)).heap.size = w.heap.size + 1 + 1 + 1) := hide (by simp)
  generalize hX : ((w.alloc (.cells (bc a) 24)).alloc (.cells (bc b) 24)).alloc (.cells (bc (List.replicate 32 0)) 24) = X at *
  have HX := hide hX
  have CO := hide co
  have HT := hide tabs
  have kA : Hid (∀ dd os, Calls Tryz.prog 30 #[.agg (bc a)] (Sort.grow (redrawn X.drew dd) os) fun e w'' => e = .returned (.string (str a)) ∧ ∃ p : Regrown, w'' = Sort.grow (redrawn X.drew p.d) p.os) := fun dd os => Calls.regrown_of (ca _)
  have kB : Hid (∀ dd os, Calls Tryz.prog 30 #[.agg (bc b)] (Sort.grow (redrawn X.drew dd) os) fun e w'' => e = .returned (.string (str b)) ∧ ∃ p : Regrown, w'' = Sort.grow (redrawn X.drew p.d) p.os) := fun dd os => Calls.regrown_of (cb _)
  have dX : Below X.heap.size X X.drew := ⟨rfl, rfl, rfl, Nat.le_refl _, fun _ _ => rfl⟩
  have s3 := unhide S3
  have R0 : Hid (∀ w', (∃ p : Regrown, w' = Sort.grow (redrawn X.drew p.d) p.os) → w'.heap[w.heap.size]? = some (.cells (bc a) 24 (0, 0))) := fun w' ⟨p, hp⟩ => by
    rw [hp]; exact Below.at (below_regrown X.drew p.d p.os) (by show _ < X.heap.size; omega) (unhide A3).1
  have R1 : Hid (∀ w', (∃ p : Regrown, w' = Sort.grow (redrawn X.drew p.d) p.os) → w'.heap[w.heap.size + 1]? = some (.cells (bc b) 24 (0, 0))) := fun w' ⟨p, hp⟩ => by
    rw [hp]; exact Below.at (below_regrown X.drew p.d p.os) (by show _ < X.heap.size; omega) (unhide A3).2.1
  clear co ca cb tabs s3 dX hX
  go_enter Tryz.func63, Tryz.ntmps63
  go_wp2_with fail
  change Code.wp _ _ _ _ (((w.alloc (.cells (bc a) 24)).alloc (.cells (bc b) 24)).alloc (.cells (bc (List.replicate 32 0)) 24))
  rw [unhide HX]
  refine wp_region_any mixed ?_
  change wpAny _ _ _ _ _ _ _ X.drew
  refine wpAny_take (i := 0) rfl (by kernel_rfl) (by kernel_rfl) (by kernel_rfl) (fun _ _ _ h => h) (.inl ⟨rfl, fun _ => rfl⟩) ?_
  refine wpAny_take (i := 1) rfl (by kernel_rfl) (by kernel_rfl) (by kernel_rfl) (fun _ _ _ h => h) (.inl ⟨rfl, fun _ => rfl⟩) ?_
  refine wpAny_below_head 2 6 (by kernel_rfl) ?_
  simp only [List.take_succ_cons, List.take_zero, List.drop_succ_cons, List.drop_zero]
  refine wpQuiet_load_row rfl 24 (.tmp 6) rfl w.heap.size rfl 24 _ (0, 0) _ (unhide R0) Tryz.underlying24 rfl hia ?_
  quiet_step (exact unhide kA _ _)
  refine wpQuiet_load_row rfl 24 (.tmp 7) rfl (w.heap.size + 1) rfl 24 _ (0, 0) _ (unhide R1) Tryz.underlying24 rfl hib ?_
  quiet_step (exact unhide kB _ _)
  refine wpQuiet_nil ?_
  intro w2 hb2
  have hb2' : Below X.heap.size X w2 := ⟨hb2.os, hb2.tape, hb2.output, hb2.size, hb2.block⟩
  have s3 := unhide S3
  have q2 := Below.at hb2' (by omega) (unhide A3).2.2
  have hbw : Below w.heap.size w w2 := (unhide B3).trans (hb2'.mono (by omega))
  have z2 : w.heap.size + 1 + 1 < w2.heap.size := by have := hb2'.size; omega
  have HB := hide hbw
  have Q2 := hide q2
  have Z2 := hide z2
  clear hb2 hb2' s3 q2 hbw z2
  refine wpAny_rest 6 (by kernel_rfl) ?_
  simp only [List.drop_succ_cons, List.drop_zero]
  go_wp2_with fail
  refine (unhide CO _ _ (strsAt_pair w2 a b _) (((unhide HT).below (unhide HB) (Nat.le_refl _)).below' ((Below.refl _ w2).alloc (Nat.le_refl _) _))).mono ?_
  rintro e w3 ⟨rfl, b3⟩
  have q3 := Below.at b3 (by have := unhide Z2; simp; omega) ((Below.heap_alloc w2 (.cells #[.string (str a), .string (str b)] 9) _ (unhide Z2)).trans (unhide Q2))
  have hb3 : Below w.heap.size w w3 := ((unhide HB).alloc (by have := unhide Z2; omega) _).trans (b3.mono (by have := unhide Z2; simp; omega))
  have Q3 := hide q3
  have HB3 := hide hb3
  clear b3 q3 hb3
  go_wp2_with (refine wpList_store_row rfl 24 (.tmp 8) (.tmp 16) rfl (w.heap.size + 1 + 1) _ rfl rfl 24 _ (unhide Q3) hi1 hz1 ho1 ?_)
  exact bodyPost_ret (results_cell_row rfl _ _ (w.heap.size + 1 + 1) _ _ _ _ rfl (setRow_heap _ _ _ _ _ _ (unhide Q3)) Tryz.underlying24 rfl hi1) rfl ⟨rfl, below_setRow (unhide HB3) (by omega) _⟩
end Go.Proofs.YtocibklkpnblgaaGreatDoor

namespace Go.Proofs.YtocibklkpnblgaaGreatDoor
open Go Go.RowKit
set_option linter.unusedSimpArgs false
set_option linter.unusedVariables false

/-- A claim; a halt. -/
def pClaim (home : Nat) (a b : List UInt8) : List UInt8 := pOf 7 [pBig home 4, a, b]
def pHalt (home : Nat) (a : List UInt8) (x : Int) : List UInt8 := pOf 9 [pBig home 4, a, pBig (x % 4294967296).toNat 4]
theorem strsAt_three (w : World) (l0 l1 l2 : List UInt8) (t : TypeId) : StrsAt (w.alloc (.cells #[.string (str l0), .string (str l1), .string (str l2)] t)) (some ⟨w.heap.size, 0, none⟩) [l0, l1, l2] := by
  refine .inr ⟨w.heap.size, 0, rfl, by simp, fun j hj => ?_⟩
  match j, hj with
  | 0, _ => go_simp
  | 1, _ => go_simp
  | 2, _ => go_simp
  | j + 3, hj => simp at hj; omega
set_option maxHeartbeats 2000000 in
set_option maxRecDepth 100000 in
theorem claim_calls (home : Nat) (hh : home < 4294967296) (a b : List UInt8) (ha : a.length = 32) (hb : b.length = 32) (w : World) (tabs : Tabs w) :
    Calls Tryz.prog 38 #[.pointer none, .int .u32 (home : Int), .agg (bc a), .agg (bc b)] w fun e w' => e = .returned (.agg (bc (pClaim home a b))) ∧ Below w.heap.size w w' := by
  have co := fun g w hs tabs => ofNil_calls 7 (by decide) [pBig home 4, a, b] (by simp [pBig_length]; omega) (by simp) (some ⟨g, 0, none⟩) 3 w hs tabs
  have hia := digInfo a ha
  have hib := digInfo b hb
  have hi1 := digInfo (pClaim home a b) (pOf_length 7 [pBig home 4, a, b])
  have hz1 := zeroSize (pClaim home a b) (pOf_length 7 [pBig home 4, a, b])
  have ho1 := bc_oneCell (pClaim home a b)
  have cw := fun w => wword_calls home hh w
  have ca := fun w => wdigest_calls a ha w
  have cb := fun w => wdigest_calls b hb w
  have e2 : pOf 7 [pBig home 4, a, b] = pClaim home a b := rfl
  rw [e2] at co
  generalize pClaim home a b = D at *
  generalize pBig home 4 = PH at *
  clear e2
  have A3 := hide (al3 w (.cells (bc a) 24) (.cells (bc b) 24) (.cells (bc (List.replicate 32 0)) 24))
  have B3 := hide (bel3 w (.cells (bc a) 24) (.cells (bc b) 24) (.cells (bc (List.replicate 32 0)) 24))
  have S3 : Hid ((((w.alloc (.cells (bc a) 24)).alloc (.cells (bc b) 24)).alloc (.cells (bc (List.replicate 32 0)) 24)).heap.size = w.heap.size + 1 + 1 + 1) := hide (by simp)
  generalize hX : ((w.alloc (.cells (bc a) 24)).alloc (.cells (bc b) 24)).alloc (.cells (bc (List.replicate 32 0)) 24) = X at *
  have HX := hide hX
  have CO := hide co
  have HT := hide tabs
  have kW : Hid (∀ dd os, Calls Tryz.prog 29 #[.int .u32 (home : Int)] (Sort.grow (redrawn X.drew dd) os) fun e w'' => e = .returned (.string (str PH)) ∧ ∃ p : Regrown, w'' = Sort.grow (redrawn X.drew p.d) p.os) := fun dd os => Calls.regrown_of (cw _)
  have kA : Hid (∀ dd os, Calls Tryz.prog 30 #[.agg (bc a)] (Sort.grow (redrawn X.drew dd) os) fun e w'' => e = .returned (.string (str a)) ∧ ∃ p : Regrown, w'' = Sort.grow (redrawn X.drew p.d) p.os) := fun dd os => Calls.regrown_of (ca _)
  have kB : Hid (∀ dd os, Calls Tryz.prog 30 #[.agg (bc b)] (Sort.grow (redrawn X.drew dd) os) fun e w'' => e = .returned (.string (str b)) ∧ ∃ p : Regrown, w'' = Sort.grow (redrawn X.drew p.d) p.os) := fun dd os => Calls.regrown_of (cb _)
  have dX : Below X.heap.size X X.drew := ⟨rfl, rfl, rfl, Nat.le_refl _, fun _ _ => rfl⟩
  have s3 := unhide S3
  have R0 : Hid (∀ w', (∃ p : Regrown, w' = Sort.grow (redrawn X.drew p.d) p.os) → w'.heap[w.heap.size]? = some (.cells (bc a) 24 (0, 0))) := fun w' ⟨p, hp⟩ => by
    rw [hp]; exact Below.at (below_regrown X.drew p.d p.os) (by show _ < X.heap.size; omega) (unhide A3).1
  have R1 : Hid (∀ w', (∃ p : Regrown, w' = Sort.grow (redrawn X.drew p.d) p.os) → w'.heap[w.heap.size + 1]? = some (.cells (bc b) 24 (0, 0))) := fun w' ⟨p, hp⟩ => by
    rw [hp]; exact Below.at (below_regrown X.drew p.d p.os) (by show _ < X.heap.size; omega) (unhide A3).2.1
  clear co ca cb cw tabs s3 dX hX
  go_enter Tryz.func38, Tryz.ntmps38
  go_wp2_with fail
  change Code.wp _ _ _ _ (((w.alloc (.cells (bc a) 24)).alloc (.cells (bc b) 24)).alloc (.cells (bc (List.replicate 32 0)) 24))
  rw [unhide HX]
  refine wp_region_any mixed ?_
  change wpAny _ _ _ _ _ _ _ X.drew
  refine wpAny_take (i := 0) rfl (by kernel_rfl) (by kernel_rfl) (by kernel_rfl) (fun _ _ _ h => h) (.inl ⟨rfl, fun _ => rfl⟩) ?_
  refine wpAny_take (i := 1) rfl (by kernel_rfl) (by kernel_rfl) (by kernel_rfl) (fun _ _ _ h => h) (.inl ⟨rfl, fun _ => rfl⟩) ?_
  refine wpAny_below_head 2 7 (by kernel_rfl) ?_
  simp only [List.take_succ_cons, List.take_zero, List.drop_succ_cons, List.drop_zero]
  quiet_step (exact unhide kW _ _)
  refine wpQuiet_load_row rfl 24 (.tmp 6) rfl w.heap.size rfl 24 _ (0, 0) _ (unhide R0) Tryz.underlying24 rfl hia ?_
  quiet_step (exact unhide kA _ _)
  refine wpQuiet_load_row rfl 24 (.tmp 7) rfl (w.heap.size + 1) rfl 24 _ (0, 0) _ (unhide R1) Tryz.underlying24 rfl hib ?_
  quiet_step (exact unhide kB _ _)
  refine wpQuiet_nil ?_
  intro w2 hb2
  have hb2' : Below X.heap.size X w2 := ⟨hb2.os, hb2.tape, hb2.output, hb2.size, hb2.block⟩
  have s3 := unhide S3
  have q2 := Below.at hb2' (by omega) (unhide A3).2.2
  have hbw : Below w.heap.size w w2 := (unhide B3).trans (hb2'.mono (by omega))
  have z2 : w.heap.size + 1 + 1 < w2.heap.size := by have := hb2'.size; omega
  have HB := hide hbw
  have Q2 := hide q2
  have Z2 := hide z2
  clear hb2 hb2' s3 q2 hbw z2
  refine wpAny_rest 7 (by kernel_rfl) ?_
  simp only [List.drop_succ_cons, List.drop_zero]
  go_wp2_with fail
  refine (unhide CO _ _ (strsAt_three w2 PH a b _) (((unhide HT).below (unhide HB) (Nat.le_refl _)).below' ((Below.refl _ w2).alloc (Nat.le_refl _) _))).mono ?_
  rintro e w3 ⟨rfl, b3⟩
  have q3 := Below.at b3 (by have := unhide Z2; simp; omega) ((Below.heap_alloc w2 (.cells #[.string (str PH), .string (str a), .string (str b)] 9) _ (unhide Z2)).trans (unhide Q2))
  have hb3 : Below w.heap.size w w3 := ((unhide HB).alloc (by have := unhide Z2; omega) _).trans (b3.mono (by have := unhide Z2; simp; omega))
  have Q3 := hide q3
  have HB3 := hide hb3
  clear b3 q3 hb3
  go_wp2_with (refine wpList_store_row rfl 24 (.tmp 8) (.tmp 17) rfl (w.heap.size + 1 + 1) _ rfl rfl 24 _ (unhide Q3) hi1 hz1 ho1 ?_)
  exact bodyPost_ret (results_cell_row rfl _ _ (w.heap.size + 1 + 1) _ _ _ _ rfl (setRow_heap _ _ _ _ _ _ (unhide Q3)) Tryz.underlying24 rfl hi1) rfl ⟨rfl, below_setRow (unhide HB3) (by omega) _⟩
end Go.Proofs.YtocibklkpnblgaaGreatDoor

namespace Go.Proofs.YtocibklkpnblgaaGreatDoor
open Go.RowKit
set_option linter.unusedSimpArgs false
set_option linter.unusedVariables false

/-- The digest of two neighbours. -/
def pR (a b : List UInt8) : List UInt8 := pOf 4 [a, b]
theorem pR_length (a b : List UInt8) : (pR a b).length = 32 := pOf_length _ _
def upAt (ds : List (List UInt8)) (i : Nat) : List UInt8 := pR (ds.getD (2 * i) []) (ds.getD (2 * i + 1) [])
def pUp (ds : List (List UInt8)) : List (List UInt8) := (List.range (ds.length / 2)).map (upAt ds)
theorem upAt_length (ds : List (List UInt8)) (i : Nat) : (upAt ds i).length = 32 := pR_length _ _
theorem pUp_length (ds : List (List UInt8)) : (pUp ds).length = ds.length / 2 := by simp [pUp]
theorem pUp_at (ds : List (List UInt8)) (i : Nat) (h : i < ds.length / 2) : (pUp ds).getD i [] = upAt ds i := by simp [pUp, h]
theorem pUp_32 (ds : List (List UInt8)) : ∀ d ∈ pUp ds, d.length = 32 := fun d hd => by
  obtain ⟨i, _, rfl⟩ := List.mem_map.1 hd
  exact upAt_length _ _
/-- The levels above the leaves. -/
def kLev (ds : List (List UInt8)) : Nat → List (List UInt8)
  | 0 => ds
  | k + 1 => pUp (kLev ds k)
theorem kLev_length (ds : List (List UInt8)) : ∀ k, (kLev ds k).length = ds.length / 2 ^ k
  | 0 => by simp [kLev]
  | k + 1 => by rw [kLev, pUp_length, kLev_length ds k, Nat.pow_succ, Nat.div_div_eq_div_mul]
theorem kLev_32 (ds : List (List UInt8)) (h : ∀ d ∈ ds, d.length = 32) : ∀ k, ∀ d ∈ kLev ds k, d.length = 32
  | 0 => h
  | k + 1 => pUp_32 _
def kRoot (ds : List (List UInt8)) : List UInt8 := (kLev ds 4).getD 0 []
def pathAt (ds : List (List UInt8)) (x i : Nat) : List UInt8 := (kLev ds i).getD ((x / 2 ^ i) ^^^ 1) []
def kPath (ds : List (List UInt8)) (x : Nat) : List (List UInt8) := (List.range 4).map (pathAt ds x)
def kClimb (leaf : List UInt8) (x : Nat) (ds : List (List UInt8)) : Nat → List UInt8
  | 0 => leaf
  | k + 1 => if x / 2 ^ k % 2 = 1 then pR (ds.getD k []) (kClimb leaf x ds k) else pR (kClimb leaf x ds k) (ds.getD k [])
theorem kClimb_length (leaf : List UInt8) (x : Nat) (ds : List (List UInt8)) (hl : leaf.length = 32) : ∀ k, (kClimb leaf x ds k).length = 32
  | 0 => hl
  | k + 1 => by unfold kClimb; split <;> exact pR_length _ _
theorem kxor1 (B : Nat) : B ^^^ 1 = if B % 2 = 1 then B - 1 else B + 1 := by
  have h1 : (B ^^^ 1) / 2 = B / 2 := by rw [Nat.xor_div_two]; simp
  have h2 : (B ^^^ 1) % 2 ^ 1 = (B % 2 ^ 1) ^^^ (1 % 2 ^ 1) := Nat.xor_mod_two_pow
  rw [Nat.pow_one] at h2
  rcases Nat.mod_two_eq_zero_or_one B with h | h
  · rw [h] at h2
    rw [h, if_neg (by decide)]
    have h3 : (B ^^^ 1) % 2 = 1 := h2
    omega
  · rw [h] at h2
    rw [h, if_pos rfl]
    have h3 : (B ^^^ 1) % 2 = 0 := h2
    omega
theorem kPath_at (ds : List (List UInt8)) (x i : Nat) (h : i < 4) : (kPath ds x).getD i [] = pathAt ds x i := by simp [kPath, h]
theorem kPath_length (ds : List (List UInt8)) (x : Nat) : (kPath ds x).length = 4 := by simp [kPath]
theorem pow4 (k : Nat) (h : k ≤ 4) : 16 / 2 ^ k * 2 ^ k = 16 := by
  have : k = 0 ∨ k = 1 ∨ k = 2 ∨ k = 3 ∨ k = 4 := by omega
  rcases this with rfl | rfl | rfl | rfl | rfl <;> rfl
theorem place_lt (x k : Nat) (hx : x < 16) (h : k ≤ 4) : x / 2 ^ k < 16 / 2 ^ k := by
  have : k = 0 ∨ k = 1 ∨ k = 2 ∨ k = 3 ∨ k = 4 := by omega
  rcases this with rfl | rfl | rfl | rfl | rfl <;> omega
theorem side_lt (x k : Nat) (hx : x < 16) (h : k < 4) : (x / 2 ^ k) ^^^ 1 < 16 / 2 ^ k := by
  have h1 := place_lt x k hx (by omega)
  rw [kxor1]
  have : k = 0 ∨ k = 1 ∨ k = 2 ∨ k = 3 := by omega
  rcases this with rfl | rfl | rfl | rfl <;> split <;> omega
theorem kClimb_path (ds : List (List UInt8)) (hd : ds.length = 16) (x : Nat) (hx : x < 16) : ∀ k, k ≤ 4 → kClimb (ds.getD x []) x (kPath ds x) k = (kLev ds k).getD (x / 2 ^ k) []
  | 0, _ => by rw [Nat.pow_zero, Nat.div_one]; rfl
  | k + 1, hk => by
    have ih := kClimb_path ds hd x hx k (by omega)
    have e : x / 2 ^ (k + 1) = x / 2 ^ k / 2 := by rw [Nat.pow_succ, ← Nat.div_div_eq_div_mul]
    have hl := kLev_length ds k
    rw [hd] at hl
    have hp := place_lt x k hx (by omega)
    have hp1 := place_lt x (k + 1) hx hk
    have h2 : 16 / 2 ^ (k + 1) = 16 / 2 ^ k / 2 := by rw [Nat.pow_succ, ← Nat.div_div_eq_div_mul]
    show (if x / 2 ^ k % 2 = 1 then pR ((kPath ds x).getD k []) (kClimb (ds.getD x []) x (kPath ds x) k) else pR (kClimb (ds.getD x []) x (kPath ds x) k) ((kPath ds x).getD k [])) = (pUp (kLev ds k)).getD (x / 2 ^ (k + 1)) []
    rw [kPath_at ds x k (by omega), ih, pUp_at _ _ (by rw [hl]; omega), e]
    unfold pathAt upAt
    rw [kxor1]
    generalize kLev ds k = L
    generalize x / 2 ^ k = B
    by_cases h : B % 2 = 1
    · rw [if_pos h, if_pos h, show 2 * (B / 2) = B - 1 by omega, show B - 1 + 1 = B by omega]
    · rw [if_neg h, if_neg h, show 2 * (B / 2) = B by omega]
/-- A leaf's path climbs to the root. -/
theorem kClimb_root (ds : List (List UInt8)) (hd : ds.length = 16) (x : Nat) (hx : x < 16) : kClimb (ds.getD x []) x (kPath ds x) 4 = kRoot ds := by
  rw [kClimb_path ds hd x hx 4 (Nat.le_refl _)]
  have : x / 2 ^ 4 = 0 := by omega
  rw [this]; rfl
theorem kRoot_length (ds : List (List UInt8)) (hd : ds.length = 16) : (kRoot ds).length = 32 := by
  have h := kLev_length ds 4
  rw [hd] at h
  have h1 : 0 < (kLev ds 4).length := by rw [h]; decide
  unfold kRoot
  rw [List.getD_eq_getElem?_getD, List.getElem?_eq_getElem h1]
  exact pUp_32 _ _ (List.getElem_mem _)
end Go.Proofs.YtocibklkpnblgaaGreatDoor

namespace Go.Proofs.YtocibklkpnblgaaGreatDoor
open Go Go.RowKit
set_option linter.unusedSimpArgs false
set_option linter.unusedVariables false

/-- The digest of two digests, of the domain Node. -/
def pNode (a b : List UInt8) : List UInt8 := pOf 6 [a, b]
theorem pNode_length (a b : List UInt8) : (pNode a b).length = 32 := pOf_length _ _
theorem strsAt_two (w : World) (l0 l1 : List UInt8) (t : TypeId) : StrsAt (w.alloc (.cells #[.string (str l0), .string (str l1)] t)) (some ⟨w.heap.size, 0, none⟩) [l0, l1] := by
  refine .inr ⟨w.heap.size, 0, rfl, by simp, fun j hj => ?_⟩
  match j, hj with
  | 0, _ => go_simp
  | 1, _ => go_simp
  | j + 2, hj => simp at hj; omega
set_option maxHeartbeats 2000000 in
set_option maxRecDepth 100000 in
theorem two_calls (a b : List UInt8) (ha : a.length = 32) (hb : b.length = 32) (w : World) (tabs : Tabs w) :
    Calls Tryz.prog 63 #[.pointer none, .int .u8 6, .agg (bc a), .agg (bc b)] w fun e w' => e = .returned (.agg (bc (pNode a b))) ∧ Below w.heap.size w w' := by
  have co := fun g w hs tabs => ofNil_calls 6 (by decide) [a, b] (by simp; omega) (by simp) (some ⟨g, 0, none⟩) 2 w hs tabs
  have hia := digInfo a ha
  have hib := digInfo b hb
  have hi1 := digInfo (pNode a b) (pNode_length a b)
  have hz1 := zeroSize (pNode a b) (pNode_length a b)
  have ho1 := bc_oneCell (pNode a b)
  have ca := fun w => wdigest_calls a ha w
  have cb := fun w => wdigest_calls b hb w
  have e2 : pOf 6 [a, b] = pNode a b := rfl
  rw [e2] at co
  generalize pNode a b = D at *
  have A3 := hide (al3 w (.cells (bc a) 24) (.cells (bc b) 24) (.cells (bc (List.replicate 32 0)) 24))
  have B3 := hide (bel3 w (.cells (bc a) 24) (.cells (bc b) 24) (.cells (bc (List.replicate 32 0)) 24))
  have S3 : Hid ((((w.alloc (.cells (bc a) 24)).alloc (.cells (bc b) 24)).alloc (.cells (bc (List.replicate 32 0)) 24)).heap.size = w.heap.size + 1 + 1 + 1) := hide (by simp)
  generalize hX : ((w.alloc (.cells (bc a) 24)).alloc (.cells (bc b) 24)).alloc (.cells (bc (List.replicate 32 0)) 24) = X at *
  have HX := hide hX
  have CO := hide co
  have HT := hide tabs
  have kA : Hid (∀ dd os, Calls Tryz.prog 30 #[.agg (bc a)] (Sort.grow (redrawn X.drew dd) os) fun e w'' => e = .returned (.string (str a)) ∧ ∃ p : Regrown, w'' = Sort.grow (redrawn X.drew p.d) p.os) := fun dd os => Calls.regrown_of (ca _)
  have kB : Hid (∀ dd os, Calls Tryz.prog 30 #[.agg (bc b)] (Sort.grow (redrawn X.drew dd) os) fun e w'' => e = .returned (.string (str b)) ∧ ∃ p : Regrown, w'' = Sort.grow (redrawn X.drew p.d) p.os) := fun dd os => Calls.regrown_of (cb _)
  have dX : Below X.heap.size X X.drew := ⟨rfl, rfl, rfl, Nat.le_refl _, fun _ _ => rfl⟩
  have s3 := unhide S3
  have R0 : Hid (∀ w', (∃ p : Regrown, w' = Sort.grow (redrawn X.drew p.d) p.os) → w'.heap[w.heap.size]? = some (.cells (bc a) 24 (0, 0))) := fun w' ⟨p, hp⟩ => by
    rw [hp]; exact Below.at (below_regrown X.drew p.d p.os) (by show _ < X.heap.size; omega) (unhide A3).1
  have R1 : Hid (∀ w', (∃ p : Regrown, w' = Sort.grow (redrawn X.drew p.d) p.os) → w'.heap[w.heap.size + 1]? = some (.cells (bc b) 24 (0, 0))) := fun w' ⟨p, hp⟩ => by
    rw [hp]; exact Below.at (below_regrown X.drew p.d p.os) (by show _ < X.heap.size; omega) (unhide A3).2.1
  clear co ca cb tabs e2 s3 dX hX
  go_enter Tryz.func63, Tryz.ntmps63
  go_wp2_with fail
  change Code.wp _ _ _ _ (((w.alloc (.cells (bc a) 24)).alloc (.cells (bc b) 24)).alloc (.cells (bc (List.replicate 32 0)) 24))
  rw [unhide HX]
  refine wp_region_any mixed ?_
  change wpAny _ _ _ _ _ _ _ X.drew
  refine wpAny_take (i := 0) rfl (by kernel_rfl) (by kernel_rfl) (by kernel_rfl) (fun _ _ _ h => h) (.inl ⟨rfl, fun _ => rfl⟩) ?_
  refine wpAny_take (i := 1) rfl (by kernel_rfl) (by kernel_rfl) (by kernel_rfl) (fun _ _ _ h => h) (.inl ⟨rfl, fun _ => rfl⟩) ?_
  refine wpAny_below_head 2 6 (by kernel_rfl) ?_
  simp only [List.take_succ_cons, List.take_zero, List.drop_succ_cons, List.drop_zero]
  refine wpQuiet_load_row rfl 24 (.tmp 6) rfl w.heap.size rfl 24 _ (0, 0) _ (unhide R0) Tryz.underlying24 rfl hia ?_
  quiet_step (exact unhide kA _ _)
  refine wpQuiet_load_row rfl 24 (.tmp 7) rfl (w.heap.size + 1) rfl 24 _ (0, 0) _ (unhide R1) Tryz.underlying24 rfl hib ?_
  quiet_step (exact unhide kB _ _)
  refine wpQuiet_nil ?_
  intro w2 hb2
  have hb2' : Below X.heap.size X w2 := ⟨hb2.os, hb2.tape, hb2.output, hb2.size, hb2.block⟩
  have s3 := unhide S3
  have q2 := Below.at hb2' (by omega) (unhide A3).2.2
  have hbw : Below w.heap.size w w2 := (unhide B3).trans (hb2'.mono (by omega))
  have z2 : w.heap.size + 1 + 1 < w2.heap.size := by have := hb2'.size; omega
  have HB := hide hbw
  have Q2 := hide q2
  have Z2 := hide z2
  clear hb2 hb2' s3 q2 hbw z2
  refine wpAny_rest 6 (by kernel_rfl) ?_
  simp only [List.drop_succ_cons, List.drop_zero]
  go_wp2_with fail
  refine (unhide CO _ _ (strsAt_two w2 a b _) (((unhide HT).below (unhide HB) (Nat.le_refl _)).below' ((Below.refl _ w2).alloc (Nat.le_refl _) _))).mono ?_
  rintro e w3 ⟨rfl, b3⟩
  have q3 := Below.at b3 (by have := unhide Z2; simp; omega) ((Below.heap_alloc w2 (.cells #[.string (str a), .string (str b)] 9) _ (unhide Z2)).trans (unhide Q2))
  have hb3 : Below w.heap.size w w3 := ((unhide HB).alloc (by have := unhide Z2; omega) _).trans (b3.mono (by have := unhide Z2; simp; omega))
  have Q3 := hide q3
  have HB3 := hide hb3
  clear b3 q3 hb3
  go_wp2_with (refine wpList_store_row rfl 24 (.tmp 8) (.tmp 16) rfl (w.heap.size + 1 + 1) _ rfl rfl 24 _ (unhide Q3) hi1 hz1 ho1 ?_)
  exact bodyPost_ret (results_cell_row rfl _ _ (w.heap.size + 1 + 1) _ _ _ _ rfl (setRow_heap _ _ _ _ _ _ (unhide Q3)) Tryz.underlying24 rfl hi1) rfl ⟨rfl, below_setRow (unhide HB3) (by omega) _⟩
/-- The nought of a level. -/
def pNought : Nat → List UInt8
  | 0 => List.replicate 32 0
  | k + 1 => pNode (pNought k) (pNought k)
theorem pNought_length : ∀ k, (pNought k).length = 32
  | 0 => rfl
  | k + 1 => pNode_length _ _
end Go.Proofs.YtocibklkpnblgaaGreatDoor

namespace Go.Proofs.YtocibklkpnblgaaGreatDoor
open Go Go.RowKit
set_option linter.unusedSimpArgs false
set_option linter.unusedVariables false

/-- A list of digests lies where a slice points. -/
def DL (w : World) (p : Option Addr) (ds : List (List UInt8)) : Prop :=
  (∀ d ∈ ds, d.length = 32) ∧ (ds ≠ [] → ∃ b off, p = some ⟨b, off, none⟩ ∧ b < w.heap.size ∧ ∀ i, i < ds.length → w.rangeAt b (off + i * 32) (Lib.byteCells (ds.getD i [])))
theorem rangeAt_below {w w' : World} {B b off : Nat} {cs : List Value} (h : w.rangeAt b off cs) (hb : Below B w w') (hB : b < B) : w'.rangeAt b off cs := fun i v hv => by
  rw [← h i v hv]
  exact hb.cell (p := ⟨b, off + i, none⟩) hB
theorem DL.below {w w' : World} {B : Nat} {p : Option Addr} {ds : List (List UInt8)} (h : DL w p ds) (hb : Below B w w') (hB : w.heap.size ≤ B) : DL w' p ds := by
  refine ⟨h.1, fun hn => ?_⟩
  obtain ⟨b, off, rfl, hlt, hc⟩ := h.2 hn
  exact ⟨b, off, rfl, Nat.lt_of_lt_of_le hlt hb.size, fun i hi => rangeAt_below (hc i hi) hb (Nat.lt_of_lt_of_le hlt hB)⟩
theorem DL.len {w : World} {p : Option Addr} {ds : List (List UInt8)} (h : DL w p ds) (i : Nat) (hi : i < ds.length) : (ds.getD i []).length = 32 := by
  have := h.1 (ds[i]'hi) (List.getElem_mem _)
  simpa [List.getD, hi] using this
/-- What stands at a place. -/
def pStand (ds : List (List UInt8)) (x : Nat) (z : List UInt8) : List UInt8 := if x < ds.length then ds.getD x [] else z
theorem pStand_length {ds : List (List UInt8)} (h : ∀ d ∈ ds, d.length = 32) (x : Nat) (z : List UInt8) (hz : z.length = 32) : (pStand ds x z).length = 32 := by
  unfold pStand
  split
  · rename_i hi
    have := h (ds[x]'hi) (List.getElem_mem _)
    simpa [List.getD, hi] using this
  · exact hz
/-- Up a branch. -/
def pClimb (leaf : List UInt8) (at' : Nat) (ds : List (List UInt8)) : Nat → List UInt8
  | 0 => leaf
  | k + 1 => if at' / 2 ^ k % 2 = 1 then pNode (ds.getD k []) (pClimb leaf at' ds k) else pNode (pClimb leaf at' ds k) (ds.getD k [])
theorem pClimb_length (leaf : List UInt8) (at' : Nat) (ds : List (List UInt8)) (hl : leaf.length = 32) : ∀ k, (pClimb leaf at' ds k).length = 32
  | 0 => hl
  | k + 1 => by unfold pClimb; split <;> exact pNode_length _ _
theorem mand_one (M : Nat) (h : M < 4294967296) : bits .and .u32 (M : Int) 1 = ((M % 2 : Nat) : Int) := by
  have := u32_and_nat M 1 h (by omega)
  rw [Nat.and_one_is_mod] at this
  exact this
end Go.Proofs.YtocibklkpnblgaaGreatDoor

namespace Go.Proofs.YtocibklkpnblgaaGreatDoor
open Go Go.RowKit
set_option linter.unusedSimpArgs false
set_option linter.unusedVariables false

theorem keyLits_ints' {P : Program} (t e : TypeId) (n : Nat) (k : IntKind) (hu : P.underlying t = some (.array n e)) (he : P.underlying e = some (.int k)) (hce : P.cellsOf e = 1) (hct : P.cellsOf t = n)
    (zs : List Int) (hl : zs.length = n) (hw : ∀ z ∈ zs, (Lit.int k z).wf = true) : P.keyLits 2 t (zs.map (Value.int k)) = some (zs.map (Lit.int k)) := by
  unfold Program.keyLits
  simp only [hu]
  rw [if_pos (by simp [hl, hct])]
  rw [mapM_some _ (fun i => [Lit.int k (zs.getD i 0)]) _ (fun i hi => ?_)]
  · have e : ((List.range n).map fun i => [Lit.int k (zs.getD i 0)]).flatten = zs.map (Lit.int k) := by
      apply List.ext_getElem?
      intro i
      have e1 : ((List.range n).map fun i => [Lit.int k (zs.getD i 0)]).flatten = (List.range n).map fun i => Lit.int k (zs.getD i 0) := by
        induction (List.range n) with
        | nil => rfl
        | cons x l ih => rw [List.map_cons, List.flatten_cons, ih]; rfl
      rw [e1]
      by_cases hi : i < n
      · simp [hi, hl]
      · simp [hi, hl]
    show some _ = some _
    rw [← e]
  · have hi' : i < zs.length := by rw [hl]; exact List.mem_range.1 hi
    rw [hce, Nat.mul_one, List.drop_eq_getElem_cons (by simpa using hi')]
    unfold Program.keyLits
    simp only [he]
    have hz : (Lit.int k zs[i]).wf = true := hw _ (List.getElem_mem _)
    simp [hz, hi']
theorem dig_lits (d : List UInt8) (hd : d.length = 32) : Tryz.prog.keyLits 2 24 (bc d).toList = some ((d.map fun b => (b.toNat : Int)).map (Lit.int .u8)) := by
  have := keyLits_ints' (P := Tryz.prog) 24 5 32 .u8 Tryz.underlying24 Tryz.underlying5 (by kernel_rfl) (by kernel_rfl) (d.map fun b => (b.toNat : Int)) (by simpa using hd) (fun z hz => by
    obtain ⟨b, _, rfl⟩ := List.mem_map.1 hz
    have := b.toNat_lt
    simp [Lit.wf, IntKind.min, IntKind.max, IntKind.signed, IntKind.bits]; omega)
  rw [← this]; simp [bc, Lib.byteCells]; rfl
theorem dig_formed (d : List UInt8) (hd : d.length = 32) : (Value.agg (bc d)).formed Tryz.prog 24 = true := by
  simp only [Value.formed, Tryz.underlying24, bc_size, hd]; kernel_rfl
theorem lits_inj (a b : List UInt8) (h : (a.map fun b => (b.toNat : Int)).map (Lit.int .u8) = (b.map fun b => (b.toNat : Int)).map (Lit.int .u8)) : a = b := by
  rw [List.map_map, List.map_map] at h
  refine List.map_inj_right (f := fun b : UInt8 => Lit.int .u8 (b.toNat : Int)) (fun x y hxy => ?_) |>.1 h
  injection hxy with _ h2
  exact UInt8.toNat_inj.1 (by omega)
theorem dig_eq (a b : List UInt8) (ha : a.length = 32) (hb : b.length = 32) (w : World) : (binOp .eql 24 (.agg (bc a)) (.agg (bc b))).run Tryz.prog w = .ok (.bool (decide (a = b))) w := by
  obtain ⟨r, hr, hiff⟩ := run_equalIn_deep (P := Tryz.prog) (10000 - 2) 2 24 (by kernel_rfl) w 2 2 (.agg (bc a)) (.agg (bc b)) _ _ (dig_formed a ha) (dig_formed b hb) (dig_lits a ha) (dig_lits b hb)
  rw [show 10000 - 2 + 2 = 10000 by omega] at hr
  have : r = decide (a = b) := by
    by_cases h : a = b
    · rw [decide_eq_true h]; exact hiff.2 (by rw [h])
    · rw [decide_eq_false h]
      cases r with
      | false => rfl
      | true => exact absurd (lits_inj a b (hiff.1 rfl)) h
  rw [run_eql_struct, hr, this]; rfl
end Go.Proofs.YtocibklkpnblgaaGreatDoor

namespace Go.Proofs.YtocibklkpnblgaaGreatDoor
open Go Go.RowKit
set_option linter.unusedSimpArgs false
set_option linter.unusedVariables false

def pProves (root leaf : List UInt8) (x : Nat) (ds : List (List UInt8)) : Bool := decide (ds.length = 32) && decide (pClimb leaf x ds 32 = root)
end Go.Proofs.YtocibklkpnblgaaGreatDoor

namespace Go.Proofs.YtocibklkpnblgaaGreatDoor
open Go Go.RowKit
set_option linter.unusedSimpArgs false
set_option linter.unusedVariables false

def aboveAt (ds : List (List UInt8)) (z : List UInt8) (i : Nat) : List UInt8 := pNode (ds.getD (2 * i) []) (pStand ds (2 * i + 1) z)
def pAbove (ds : List (List UInt8)) (z : List UInt8) : List (List UInt8) := (List.range ((ds.length + 1) / 2)).map (aboveAt ds z)
theorem aboveAt_length (ds : List (List UInt8)) (z : List UInt8) (i : Nat) : (aboveAt ds z i).length = 32 := pNode_length _ _
theorem pAbove_length (ds : List (List UInt8)) (z : List UInt8) : (pAbove ds z).length = (ds.length + 1) / 2 := by simp [pAbove]
theorem pAbove_at (ds : List (List UInt8)) (z : List UInt8) (i : Nat) (h : i < (ds.length + 1) / 2) : (pAbove ds z).getD i [] = aboveAt ds z i := by simp [pAbove, h]
theorem flat_len32 (f : Nat → List UInt8) (hf : ∀ j, (f j).length = 32) (k : Nat) : ((List.range k).flatMap f).length = 32 * k := by
  induction k with
  | zero => rfl
  | succ k ih => rw [List.range_succ, List.flatMap_append, List.length_append, ih]; simp [hf]; omega
theorem flat_at32 (f : Nat → List UInt8) (hf : ∀ j, (f j).length = 32) : ∀ k i, i < k → (((List.range k).flatMap f).drop (i * 32)).take 32 = f i
  | 0, i, h => by omega
  | k + 1, i, h => by
    rw [List.range_succ, List.flatMap_append]
    have hl := flat_len32 f hf k
    by_cases hik : i < k
    · rw [List.drop_append_of_le_length (by omega), List.take_append_of_le_length (by rw [List.length_drop]; omega)]
      exact flat_at32 f hf k i hik
    · obtain rfl : i = k := by omega
      rw [List.drop_append, List.drop_of_length_le (by omega), hl, show i * 32 - 32 * i = 0 by omega]
      simp [hf]
      exact List.take_of_length_le (by rw [hf]; exact Nat.le_refl _)
theorem DL.other {w w' : World} {p : Option Addr} {ds : List (List UInt8)} (h : DL w p ds) (hs : w'.heap.size = w.heap.size) (hk : ds ≠ [] → ∀ b off, p = some ⟨b, off, none⟩ → w'.heap[b]? = w.heap[b]?) : DL w' p ds := by
  refine ⟨h.1, fun hn => ?_⟩
  obtain ⟨b, off, rfl, hlt, hc⟩ := h.2 hn
  refine ⟨b, off, rfl, by omega, fun i hi j v hv => ?_⟩
  rw [← hc i hi j v hv]
  exact World.cell?_of_block (w := w) (hk hn b off rfl)
/-- The list lies in no block from N to N + 1. -/
def Far2 (N : Nat) (p : Option Addr) (ds : List (List UInt8)) : Prop := ds ≠ [] → ∀ b off, p = some ⟨b, off, none⟩ → b < N ∨ N + 1 < b
theorem far2_of {w : World} {p : Option Addr} {ds : List (List UInt8)} (h : DL w p ds) {N : Nat} (hN : w.heap.size ≤ N) : Far2 N p ds := fun hn b off e => by
  obtain ⟨b', off', e', hlt, _⟩ := h.2 hn
  rw [e'] at e
  simp at e
  omega
/-- A block of digests, as a list of them. -/
theorem DL_of_flat {w : World} {g : Nat} {t : TypeId} (f : Nat → List UInt8) (hf : ∀ j, (f j).length = 32) (m : Nat) (hg : w.heap[g]? = some (.cells (bc ((List.range m).flatMap f)) t (0, 0))) : DL w (some ⟨g, 0, none⟩) ((List.range m).map f) := by
  refine ⟨fun d hd => ?_, fun hn => ⟨g, 0, rfl, (Array.getElem?_eq_some_iff.1 hg).1, fun i hi => ?_⟩⟩
  · obtain ⟨j, _, rfl⟩ := List.mem_map.1 hd; exact hf j
  · have hi' : i < m := by simpa using hi
    have := bc_range w g (0 + i * 32) 32 _ t hg
    rw [Nat.zero_add] at this ⊢
    rw [flat_at32 f hf m i hi'] at this
    simpa [hi'] using this
end Go.Proofs.YtocibklkpnblgaaGreatDoor

namespace Go.Proofs.YtocibklkpnblgaaGreatDoor
open Go Go.RowKit
set_option linter.unusedSimpArgs false
set_option linter.unusedVariables false

set_option maxHeartbeats 4000000 in
set_option maxRecDepth 100000 in
theorem kabove_calls (ds : List (List UInt8)) (p : Option Addr) (cap : Nat) (hlen : ds.length ≤ 100000000) (w : World) (hD : DL w p ds) (tabs : Tabs w) :
    Calls Tryz.prog 41 #[.pointer none, .slice p ds.length cap] w fun e w' => (∃ g c, e = .returned (.slice (some ⟨g, 0, none⟩) (pUp ds).length c) ∧ (pUp ds).length ≤ c ∧ w.heap.size ≤ g ∧ DL w' (some ⟨g, 0, none⟩) (pUp ds)) ∧ Below w.heap.size w w' := by
  obtain ⟨m, hm⟩ : ∃ m, ds.length / 2 = m := ⟨_, rfl⟩
  have hmi : (ds.length : Int) / 2 = (m : Int) := by omega
  have hmt : (ds.length : Int).tdiv 2 = (m : Int) := by rw [Int.tdiv_eq_ediv_of_nonneg (by omega)]; exact hmi
  have mk := make_digests m (by omega)
  have A2 := hide (al1 w (.cells (bc (List.replicate (32 * m) 0)) 24))
  have B2 := hide ((Below.refl w.heap.size w).alloc (Nat.le_refl _) (.cells (bc (List.replicate (32 * m) 0)) 24))
  have HD := hide hD
  have HT := hide tabs
  have Hm := hide hm
  have Hlen := hide hlen
  rw [pUp_length, hm]
  clear hD tabs hm
  obtain ⟨F, hF⟩ : ∃ F, upAt ds = F := ⟨_, rfl⟩
  have HFl : Hid (∀ j, (F j).length = 32) := hide (by rw [← hF]; exact upAt_length ds)
  have HF := hide hF
  have hpa : Hid (pUp ds = (List.range m).map F) := hide (by unfold pUp; rw [unhide Hm, hF])
  rw [unhide hpa]
  clear hF
  go_enter Tryz.func41, Tryz.ntmps41
  go_wp2
  obtain ⟨N, hN⟩ : ∃ N, w.heap.size = N := ⟨_, rfl⟩
  have HN := hide hN
  go_loopw [13] (fun i wr => ∃ k : Nat, k ≤ m ∧ i = .int .i64 (k : Int) ∧ Below N w wr ∧ wr.heap[N]? = some (.cells (bc ((List.range k).flatMap F ++ List.replicate (32 * (m - k)) 0)) 24 (0, 0))) (fun i _ => m - (intOf i).toNat)
  case atStart =>
    subst hN
    refine ⟨0, by omega, rfl, unhide B2, ?_⟩
    simpa using (unhide A2)
  case round =>
    obtain ⟨k, hk, rfl, hb, q1⟩ := hrel
    rw [hN]
    clear A2 B2 mk hmi hmt
    by_cases hlt : k < m
    · have hd : decide (k < m) = true := by simpa using hlt
      have hmm := unhide Hm
      have hj : 2 * k < ds.length := by omega
      have hj1 : 2 * k + 1 < ds.length := by omega
      have hD0 := unhide HD
      obtain ⟨b, off, rfl, hlt2, hc⟩ := hD0.2 (by intro h; rw [h] at hj; simp at hj)
      have hr := rangeAt_below (hc _ hj) hb (by rw [← hN]; exact hlt2)
      have hr1 := rangeAt_below (hc _ hj1) hb (by rw [← hN]; exact hlt2)
      have hEl := hD0.len _ hj
      have hSl := hD0.len _ hj1
      have tb := (unhide HT).below hb (by rw [← hN]; exact Nat.le_refl _)
      have hz1 : N < wr.heap.size := (Array.getElem?_eq_some_iff.1 q1).1
      have hFk : F k = pOf 4 [ds.getD (2 * k) [], ds.getD (2 * k + 1) []] := by rw [← unhide HF]; rfl
      obtain ⟨j1, hjj1⟩ : ∃ j, 2 * k + 1 = j := ⟨_, rfl⟩
      obtain ⟨j, hjj⟩ : ∃ j, 2 * k = j := ⟨_, rfl⟩
      have ej : (2 : Int) * (k : Int) = (j : Int) := by omega
      have ej1 : (j : Int) + 1 = (j1 : Int) := by omega
      rw [hjj1] at hr1 hSl hFk
      rw [hjj] at hr hEl hFk
      obtain ⟨S, hS⟩ : ∃ S, ds.getD j1 [] = S := ⟨_, rfl⟩
      obtain ⟨E, hE⟩ : ∃ E, ds.getD j [] = E := ⟨_, rfl⟩
      rw [hS] at hr1 hSl hFk
      rw [hE] at hr hEl hFk
      have kN : Hid (∀ dd os, Calls Tryz.prog 63 #[.pointer none, .int .u8 4, .agg (bc E), .agg (bc S)] (Sort.grow (redrawn wr dd) os) fun e w'' => e = .returned (.agg (bc (F k))) ∧ ∃ p : Regrown, w'' = Sort.grow (redrawn wr p.d) p.os) := fun dd os => by
        rw [hFk]; exact Calls.regrown_of (twoD_calls 4 (by decide) E S hEl hSl _ (tb.below (below_regrown wr dd os) (Nat.le_refl _)))
      have RM : Hid (∀ w', (∃ p : Regrown, w' = Sort.grow (redrawn wr p.d) p.os) → w'.rangeAt b (off + j * 32) (Lib.byteCells E)) := fun w' ⟨p, hp⟩ => by
        rw [hp]; exact rangeAt_below hr (below_regrown wr p.d p.os) (by have := hb.size; omega)
      have RS : Hid (∀ w', (∃ p : Regrown, w' = Sort.grow (redrawn wr p.d) p.os) → w'.rangeAt b (off + j1 * 32) (Lib.byteCells S)) := fun w' ⟨p, hp⟩ => by
        rw [hp]; exact rangeAt_below hr1 (below_regrown wr p.d p.os) (by have := hb.size; omega)
      have hput : Hid (putAt ((List.range k).flatMap F ++ List.replicate (32 * (m - k)) 0) (k * 32) (F k) = (List.range (k + 1)).flatMap F ++ List.replicate (32 * (m - (k + 1))) 0) := by
        rw [putAt_zeros _ _ _ _ (by rw [flat_len32 F (unhide HFl)]; omega) (by rw [unhide HFl]; omega), unhide HFl, List.range_succ, List.flatMap_append]
        rw [show 32 * (m - k) - 32 = 32 * (m - (k + 1)) by omega]
        exact hide (by simp)
      have hll : Hid (k * 32 + (F k).length ≤ ((List.range k).flatMap F ++ List.replicate (32 * (m - k)) 0).length) := hide (by rw [List.length_append, flat_len32 F (unhide HFl), List.length_replicate, unhide HFl]; omega)
      have hiF := digInfo (F k) (unhide HFl k)
      have HEl := hide hEl
      have HSl := hide hSl
      have Q1 := hide q1
      have HB := hide hb
      have Hk := hide hlt
      have Hz1 := hide hz1
      have b1 : (0 : Int) ≤ j ∧ (j : Int) < ds.length := by omega
      have b3 : (0 : Int) ≤ j1 ∧ (j1 : Int) < ds.length := by omega
      have b2 : (0 : Int) ≤ k ∧ (k : Int) < m := by omega
      have wj : IntKind.i64.wrap (j : Int) = (j : Int) := wi64 _ (by omega) (by have := unhide Hlen; omega)
      have wj1 : IntKind.i64.wrap (j1 : Int) = (j1 : Int) := wi64 _ (by omega) (by have := unhide Hlen; omega)
      generalize F k = FK at *
      clear q1 hb hlt hz1 tb hFk hS hE hr hr1 hc hlt2 hD0 hEl hSl hjj hjj1 hj hj1 hmm
      go_wp2_with fail
      refine wp_region_below_tail 16 mixed (by kernel_rfl) ?_
      simp only [List.take_succ_cons, List.take_zero, List.drop_succ_cons, List.drop_zero]
      quiet_step (fail)
      quiet_step (fail)
      quiet_step (fail)
      quiet_step (fail)
      quiet_step (fail)
      quiet_step (fail)
      quiet_step (fail)
      refine wpQuiet_load_mid rfl 24 (.tmp 22) rfl b (off + j * 32) rfl (Lib.byteCells E) _ (unhide RM) Tryz.underlying24 rfl (by rw [Lib.byteCells_length, unhide HEl]; kernel_rfl) ?_
      quiet_step (fail)
      quiet_step (fail)
      quiet_step (fail)
      quiet_step (fail)
      quiet_step (fail)
      refine wpQuiet_load_mid rfl 24 (.tmp 28) rfl b (off + j1 * 32) rfl (Lib.byteCells S) _ (unhide RS) Tryz.underlying24 rfl (by rw [Lib.byteCells_length, unhide HSl]; kernel_rfl) ?_
      quiet_step (exact unhide kN _ _)
      quiet_step (fail)
      refine wpQuiet_nil ?_
      intro w2 hb2
      have p1 := Below.at hb2 (unhide Hz1) (unhide Q1)
      have bb : Below N w w2 := (unhide HB).trans (hb2.mono (by have := unhide Hz1; omega))
      have P1 := hide p1
      have BB := hide bb
      clear p1 bb hb2
      refine wpList_store_at rfl 24 (.tmp 31) (.tmp 30) rfl N (k * 32) _ FK 24 (by first | rfl | (simp; done)) rfl (unhide P1) (unhide hll) hiF ?_
      intro w3 r1 r2 r3 r4
      rw [unhide hput] at r1
      have P3 := hide r1
      have B3 := hide ((unhide BB).trans (r4 N (by omega)))
      clear r1 r2 r3 r4
      go_wp2
      exact ⟨⟨k + 1, by have := unhide Hk; omega, by go_num, unhide B3, unhide P3⟩, by have := unhide Hk; simp [intOf]; omega⟩
    · have hd : decide (k < m) = false := by simpa using hlt
      have hkl : k = m := by omega
      rw [hkl, Nat.sub_self, Nat.mul_zero, List.replicate_zero, List.append_nil] at q1
      have Q1 := hide q1
      have HB := hide hb
      clear q1 hb hkl hlt
      go_wp2
      go_ret
      refine ⟨⟨N, m, rfl, Nat.le_refl _, by rw [unhide HN]; omega, DL_of_flat F (unhide HFl) m (unhide Q1)⟩, by rw [unhide HN]; exact unhide HB⟩
end Go.Proofs.YtocibklkpnblgaaGreatDoor

namespace Go.Proofs.YtocibklkpnblgaaGreatDoor
open Go.RowKit
set_option linter.unusedSimpArgs false
set_option linter.unusedVariables false

/-- The secret of a place and a bit. -/
def pSecret (seed : List UInt8) (index i b : Nat) : List UInt8 := pOf 1 [seed, pBig index 4, pBig i 1, pBig b 1]
def pPublic (s : List UInt8) : List UInt8 := pOf 2 [s]
theorem pSecret_length (seed : List UInt8) (index i b : Nat) : (pSecret seed index i b).length = 32 := pOf_length _ _
theorem pPublic_length (s : List UInt8) : (pPublic s).length = 32 := pOf_length _ _
theorem strsAt_four (w : World) (l0 l1 l2 l3 : List UInt8) (t : TypeId) : StrsAt (w.alloc (.cells #[.string (str l0), .string (str l1), .string (str l2), .string (str l3)] t)) (some ⟨w.heap.size, 0, none⟩) [l0, l1, l2, l3] := by
  refine .inr ⟨w.heap.size, 0, rfl, by simp, fun j hj => ?_⟩
  match j, hj with
  | 0, _ => go_simp
  | 1, _ => go_simp
  | 2, _ => go_simp
  | 3, _ => go_simp
  | j + 4, hj => simp at hj; omega
set_option maxHeartbeats 2000000 in
set_option maxRecDepth 100000 in
theorem public_calls (s : List UInt8) (hs : s.length = 32) (w : World) (tabs : Tabs w) :
    Calls Tryz.prog 54 #[.pointer none, .agg (bc s)] w fun e w' => e = .returned (.agg (bc (pPublic s))) ∧ Below w.heap.size w w' := by
  have co := fun g w hs tabs => ofNil_calls 2 (by decide) [s] (by simp; omega) (by simp) (some ⟨g, 0, none⟩) 1 w hs tabs
  have hi0 := digInfo s hs
  have hi1 := digInfo (pPublic s) (pPublic_length s)
  have hz1 := zeroSize (pPublic s) (pPublic_length s)
  have ho1 := bc_oneCell (pPublic s)
  have cd := fun w => wdigest_calls s hs w
  have e2 : pOf 2 [s] = pPublic s := rfl
  rw [e2] at co
  generalize pPublic s = D at *
  have CO := hide co
  have CD := hide cd
  have HT := hide tabs
  clear co cd tabs e2
  go_enter Tryz.func54, Tryz.ntmps54
  go_wp2_with (refine wpList_load_row rfl 24 (.tmp 3) rfl w.heap.size rfl 24 _ (0, 0) _ ((Below.heap_alloc _ _ _ (by simp)).trans (al1 w (.cells (bc s) 24))) Tryz.underlying24 rfl hi0 ?_)
  have hb0 : Below w.heap.size w ((w.alloc (.cells (bc s) 24)).alloc (.cells (bc (List.replicate 32 0)) 24)) := ((Below.refl _ w).alloc (Nat.le_refl _) _).alloc (by simp) _
  have q0 : ((w.alloc (.cells (bc s) 24)).alloc (.cells (bc (List.replicate 32 0)) 24)).heap[w.heap.size + 1]? = some (.cells (bc (List.replicate 32 0)) 24 (0, 0)) := by
    have := al1 (w.alloc (.cells (bc s) 24)) (.cells (bc (List.replicate 32 0)) 24); rwa [World.size_alloc] at this
  refine (unhide CD _).mono ?_
  rintro e w1 ⟨rfl, b1⟩
  have q1 := Below.at b1 (by simp) q0
  have hb1 : Below w.heap.size w w1 := hb0.trans (b1.mono (by simp; omega))
  have z1 : w.heap.size + 1 < w1.heap.size := by have := b1.size; simp at this; omega
  clear hb0 b1 q0
  go_wp2_with fail
  refine (unhide CO _ _ (strsAt_one w1 s _) (((unhide HT).below hb1 (Nat.le_refl _)).below' ((Below.refl _ w1).alloc (Nat.le_refl _) _))).mono ?_
  rintro e w2 ⟨rfl, b2⟩
  have q2 := Below.at b2 (by simp; omega) ((Below.heap_alloc w1 (.cells #[.string (str s)] 9) _ z1).trans q1)
  have hb2 : Below w.heap.size w w2 := (hb1.alloc (by omega) _).trans (b2.mono (by simp; omega))
  clear q1 hb1 b2
  go_wp2_with (refine wpList_store_row rfl 24 (.tmp 4) (.tmp 9) rfl (w.heap.size + 1) _ rfl rfl 24 _ q2 hi1 hz1 ho1 ?_)
  exact bodyPost_ret (results_cell_row rfl _ _ (w.heap.size + 1) _ _ _ _ rfl (setRow_heap _ _ _ _ _ _ q2) Tryz.underlying24 rfl hi1) rfl ⟨rfl, below_setRow hb2 (by omega) _⟩
set_option maxHeartbeats 2000000 in
set_option maxRecDepth 100000 in
theorem secret_calls (seed : List UInt8) (hs : seed.length = 32) (x : Int) (index i b : Nat) (hx : x % 4294967296 = (index : Int)) (hi : i < 256) (hb : b < 256) (w : World) (tabs : Tabs w) :
    Calls Tryz.prog 55 #[.pointer none, .agg (bc seed), .int .i64 x, .int .i64 (i : Int), .int .i64 (b : Int)] w fun e w' => e = .returned (.agg (bc (pSecret seed index i b))) ∧ Below w.heap.size w w' := by
  have hpb := pBig_length
  have co := fun g w hs tabs => ofNil_calls 1 (by decide) [seed, pBig index 4, pBig i 1, pBig b 1] (by simp [hpb]; omega) (by simp) (some ⟨g, 0, none⟩) 4 w hs tabs
  have hi0 := digInfo seed hs
  have hi1 := digInfo (pSecret seed index i b) (pSecret_length _ _ _ _)
  have hz1 := zeroSize (pSecret seed index i b) (pSecret_length _ _ _ _)
  have ho1 := bc_oneCell (pSecret seed index i b)
  have hidx : index < 4294967296 := by omega
  have cd := fun w => wdigest_calls seed hs w
  have cw := fun w => wword_calls index hidx w
  have c1 := fun w => wbyte_calls i hi w
  have c2 := fun w => wbyte_calls b hb w
  have m1 : (i : Int) % 256 = (i : Int) := by omega
  have m2 : (b : Int) % 256 = (b : Int) := by omega
  have e2 : pOf 1 [seed, pBig index 4, pBig i 1, pBig b 1] = pSecret seed index i b := rfl
  rw [e2] at co
  generalize pSecret seed index i b = D at *
  generalize pBig index 4 = B4 at *
  generalize pBig i 1 = B1 at *
  generalize pBig b 1 = B2 at *
  have CO := hide co
  have CD := hide cd
  have CW := hide cw
  have C1 := hide c1
  have C2 := hide c2
  have HT := hide tabs
  clear co cd cw c1 c2 tabs e2 hpb
  go_enter Tryz.func55, Tryz.ntmps55
  go_wp2_with (refine wpList_load_row rfl 24 (.tmp 6) rfl w.heap.size rfl 24 _ (0, 0) _ ((Below.heap_alloc _ _ _ (by simp)).trans (al1 w (.cells (bc seed) 24))) Tryz.underlying24 rfl hi0 ?_)
  have hb0 : Below w.heap.size w ((w.alloc (.cells (bc seed) 24)).alloc (.cells (bc (List.replicate 32 0)) 24)) := ((Below.refl _ w).alloc (Nat.le_refl _) _).alloc (by simp) _
  have q0 : ((w.alloc (.cells (bc seed) 24)).alloc (.cells (bc (List.replicate 32 0)) 24)).heap[w.heap.size + 1]? = some (.cells (bc (List.replicate 32 0)) 24 (0, 0)) := by
    have := al1 (w.alloc (.cells (bc seed) 24)) (.cells (bc (List.replicate 32 0)) 24); rwa [World.size_alloc] at this
  refine (unhide CD _).mono ?_
  rintro e w1 ⟨rfl, b1⟩
  have q1 := Below.at b1 (by simp) q0
  have hb1 : Below w.heap.size w w1 := hb0.trans (b1.mono (by simp; omega))
  have z1 : w.heap.size + 1 < w1.heap.size := by have := b1.size; simp at this; omega
  clear hb0 b1 q0
  go_wp2_with fail
  refine (unhide CW _).mono ?_
  rintro e w2 ⟨rfl, b2⟩
  have q2 := Below.at b2 z1 q1
  have hb2 := hb1.trans (b2.mono (by omega))
  have z2 : w.heap.size + 1 < w2.heap.size := Nat.lt_of_lt_of_le z1 b2.size
  clear hb1 b2 q1 z1
  go_wp2_with fail
  refine (unhide C1 _).mono ?_
  rintro e w3 ⟨rfl, b3⟩
  have q3 := Below.at b3 z2 q2
  have hb3 := hb2.trans (b3.mono (by omega))
  have z3 : w.heap.size + 1 < w3.heap.size := Nat.lt_of_lt_of_le z2 b3.size
  clear hb2 b3 q2 z2
  go_wp2_with fail
  refine (unhide C2 _).mono ?_
  rintro e w4 ⟨rfl, b4⟩
  have q4 := Below.at b4 z3 q3
  have hb4 := hb3.trans (b4.mono (by omega))
  have z4 : w.heap.size + 1 < w4.heap.size := Nat.lt_of_lt_of_le z3 b4.size
  clear hb3 b4 q3 z3
  go_wp2_with fail
  refine (unhide CO _ _ (strsAt_four w4 seed B4 B1 B2 _) (((unhide HT).below hb4 (Nat.le_refl _)).below' ((Below.refl _ w4).alloc (Nat.le_refl _) _))).mono ?_
  rintro e w5 ⟨rfl, b5⟩
  have q5 := Below.at b5 (by simp; omega) ((Below.heap_alloc w4 (.cells #[.string (str seed), .string (str B4), .string (str B1), .string (str B2)] 9) _ z4).trans q4)
  have hb5 : Below w.heap.size w w5 := (hb4.alloc (by omega) _).trans (b5.mono (by simp; omega))
  clear q4 hb4 b5
  go_wp2_with (refine wpList_store_row rfl 24 (.tmp 10) (.tmp 24) rfl (w.heap.size + 1) _ rfl rfl 24 _ q5 hi1 hz1 ho1 ?_)
  exact bodyPost_ret (results_cell_row rfl _ _ (w.heap.size + 1) _ _ _ _ rfl (setRow_heap _ _ _ _ _ _ q5) Tryz.underlying24 rfl hi1) rfl ⟨rfl, below_setRow hb5 (by omega) _⟩
end Go.Proofs.YtocibklkpnblgaaGreatDoor

namespace Go.Proofs.YtocibklkpnblgaaGreatDoor
open Go.RowKit
set_option linter.unusedSimpArgs false
set_option linter.unusedVariables false

def pBit (d : List UInt8) (i : Nat) : Nat := (d.getD (i / 8) 0).toNat / 2 ^ (7 - i % 8) % 2
theorem pBit_lt (d : List UInt8) (i : Nat) : pBit d i < 2 := Nat.mod_lt _ (by decide)
theorem and_one : ∀ v : Nat, v < 256 → bits .and .u8 (v : Int) 1 = ((v % 2 : Nat) : Int) := by decide +kernel
set_option maxHeartbeats 2000000 in
set_option maxRecDepth 100000 in
theorem bit_calls (d : List UInt8) (hd : d.length = 32) (i : Nat) (hi : i < 256) (w : World) :
    Calls Tryz.prog 76 #[.agg (bc d), .int .i64 (i : Int)] w fun e w' => e = .returned (.int .i64 ((pBit d i : Nat) : Int)) ∧ Below w.heap.size w w' := by
  have hq : i / 8 < 32 := by omega
  have hr : i % 8 < 8 := by omega
  have e1 : (i : Int).tdiv 8 = ((i / 8 : Nat) : Int) := by
    rw [Int.tdiv_eq_ediv_of_nonneg (by omega)]; rfl
  have e2 : (i : Int).tmod 8 = ((i % 8 : Nat) : Int) := by
    rw [Int.tmod_eq_emod_of_nonneg (by omega)]; rfl
  have g0 : decide ((i : Int) < 0) = false := by simp
  have g1 : decide ((256 : Int) ≤ (i : Int)) = false := by simp; omega
  have hc : (w.alloc (.cells (bc d) 24)).cell? ⟨w.heap.size, i / 8, none⟩ = some (.int .u8 ((d.getD (i / 8) 0).toNat : Int)) := by
    rw [cell_of_row _ _ _ _ _ _ (al1 w (.cells (bc d) 24)), bc_at _ _ (by omega)]
  unfold pBit
  have hv := (d.getD (i / 8) 0).toNat_lt
  generalize (d.getD (i / 8) 0).toNat = v at *
  generalize i / 8 = q at *
  generalize i % 8 = r at *
  obtain ⟨s, es⟩ : ∃ s : Nat, Hid (7 - r = s) := ⟨_, hide rfl⟩
  have e3 : (7 : Int) - (r : Int) = (s : Int) := by have := unhide es; omega
  rw [unhide es]
  have hs : s < 8 := by have := unhide es; omega
  have hvs : v / 2 ^ s < 256 := Nat.lt_of_le_of_lt (Nat.div_le_self _ _) (by omega)
  have ha := and_one (v / 2 ^ s) hvs
  have h5 : (v : Int) / 2 ^ s = ((v / 2 ^ s : Nat) : Int) := by simp
  rw [← h5] at ha
  have HA := hide ha
  have hv8 : v < 256 := by omega
  clear es hvs h5 ha hv
  go_enter Tryz.func76, Tryz.ntmps76
  go_wp2
  go_ret
  have hm : v / 2 ^ s % 2 < 2 := Nat.mod_lt _ (by decide)
  refine ⟨?_, (Below.refl _ _).alloc (Nat.le_refl _) _⟩
  rw [unhide HA]
  generalize v / 2 ^ s % 2 = m at *
  rw [show wrap64 (m : Int) = (m : Int) by unfold wrap64; omega]
  rfl
end Go.Proofs.YtocibklkpnblgaaGreatDoor
