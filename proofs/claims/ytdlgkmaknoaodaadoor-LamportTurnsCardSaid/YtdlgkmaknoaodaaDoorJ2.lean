/-
  WHAT lamport's Word RETURNS, where there is no log.
-/
/-
  EQUALITY OF ARRAYS AND STRUCTS BY VALUE, OF A VALUE WITH ITSELF. Over whatever program.
-/
/-
  A LOG IN MEMORY: keys of its two maps; what is kept beside it.
-/
/-
  THE DOCUMENT's LOG IN MEMORY (layer 4): a list of inputs, and by each digest the list of its inputs.
-/
/-
  THE DOCUMENT's LOG: what it is behind one input more.
-/
/-
  A REGION THAT DRAWS ITS ORDER, STEP BY STEP: each operation that may come up is walked as a list of one. Over whatever program.
-/
/-
  A SLICE OF ROWS THAT THE CALL OWNS: a slice literal of one row; a row appended. Over whatever program.
-/
/-
  WHAT Note DOES TO THE DOCUMENT's LOG.
-/
/-
  WHAT THE DOCUMENT'S OWN ANSWERS OF LAYER 3 RETURN: Big, Text, Bytes.
-/
/-
  WHAT THE REFERENCE'S turn, constants AND First RETURN.
-/
import Derived.Test.YtdlgkmaknoaodaaDoorJ1
import Derived.DeepKeys
import Derived.Laws.StructEq
import Derived.WalkKit
import Derived.Maps.OwnSet
import Derived.DeepKeys4
import Derived.WideKeyEntry
import Derived.Maps.AppendAt
import Derived.OrdersHeld
import Derived.Laws.Rows
import Derived.Deep.MidRow
import Derived.Laws.Tables
import Derived.Test.YtdlgkmaknoaodaaDoorJ0
import Derived.Great.BuildSlice
import Derived.Laws.AppendOwn
import Derived.Laws.OwnMore
import Derived.WalkSpells
import Derived.Carry
import Derived.Deep.DeepCutAuto
import Derived.Laws.IdiomStrings
namespace Go.Proofs.YtdlgkmaknoaodaaDoor
open Go Go.RowKit
set_option linter.unusedSimpArgs false
set_option linter.unusedVariables false

/-- A key's public, by its number: two a place. -/
def pubAt (seed : List UInt8) (index j : Nat) : List UInt8 := pPublic (pSecret seed index (j / 2) (j % 2))
def pubs (seed : List UInt8) (index k : Nat) : List UInt8 := (List.range k).flatMap (pubAt seed index)
def pWord (seed : List UInt8) (index : Nat) : List UInt8 := pWordOf (pubs seed index 64)
theorem flat32 (f : Nat → List UInt8) (hf : ∀ j, (f j).length = 32) (k : Nat) : ((List.range k).flatMap f).length = 32 * k := by
  induction k with
  | zero => rfl
  | succ k ih => rw [List.range_succ, List.flatMap_append, List.length_append, ih]; simp [hf]; omega
theorem pubs_length (seed : List UInt8) (index k : Nat) : (pubs seed index k).length = 32 * k := flat32 _ (fun j => pPublic_length _) k
theorem pubs_succ (seed : List UInt8) (index k : Nat) : pubs seed index (k + 1) = pubs seed index k ++ pubAt seed index k := by
  unfold pubs; rw [List.range_succ, List.flatMap_append]; simp
theorem zero84 : Tryd.zeroCells67 = bc (List.replicate 2048 0) := by kernel_rfl
theorem pubs_put (seed : List UInt8) (index i j : Nat) (hi : i < 32) (hj : j < 2) : putAt (pubs seed index (2 * i + j) ++ List.replicate (2048 - 32 * (2 * i + j)) 0) (i * 64 + j * 32) (pPublic (pSecret seed index i j)) = pubs seed index (2 * i + (j + 1)) ++ List.replicate (2048 - 32 * (2 * i + (j + 1))) 0 := by
  rw [putAt_zeros _ _ _ _ (by rw [pubs_length]; omega) (by rw [pPublic_length]; omega), pPublic_length, show 2 * i + (j + 1) = (2 * i + j) + 1 by omega, pubs_succ]
  have e : pubAt seed index (2 * i + j) = pPublic (pSecret seed index i j) := by
    unfold pubAt
    rw [show (2 * i + j) / 2 = i by omega, show (2 * i + j) % 2 = j by omega]
  rw [e, show 2048 - 32 * (2 * i + j) - 32 = 2048 - 32 * (2 * i + j + 1) by omega]
set_option maxHeartbeats 4000000 in
set_option maxRecDepth 100000 in
theorem word_calls (seed : List UInt8) (hs : seed.length = 32) (x : Int) (index : Nat) (hx : x % 4294967296 = (index : Int)) (w : World) (tabs : Tabs w) :
    Calls Tryd.prog 16 #[.pointer none, .agg (bc seed), .int .i64 x] w fun e w' => e = .returned (.agg (bc (pWord seed index))) ∧ Below w.heap.size w w' := by
  have hW : (pWord seed index).length = 32 := pOf_length _ _
  have hi1 := digInfo (pWord seed index) hW
  have hz1 := zeroSize (pWord seed index) hW
  have ho1 := bc_oneCell (pWord seed index)
  have hi0 := digInfo seed hs
  have cW := fun w tabs => wordOf_calls (pubs seed index 64) (pubs_length _ _ _) w tabs
  have e1 : pWordOf (pubs seed index 64) = pWord seed index := rfl
  rw [e1] at cW
  have hiP := pubsInfo (pubs seed index 64) (pubs_length _ _ _)
  have cS := fun i b hi hb w tabs => secret_calls seed hs x index i b hx hi hb w tabs
  have HPut := hide (pubs_put seed index)
  generalize pWord seed index = D at *
  have HT := hide tabs
  have HiP := hide hiP
  have CW := hide cW
  have CS := hide cS
  have hA := al2 w (.cells (bc seed) 23) (.cells (bc (List.replicate 32 0)) 23)
  have hbA := bel2 w (.cells (bc seed) 23) (.cells (bc (List.replicate 32 0)) 23)
  have hsX : ((w.alloc (.cells (bc seed) 23)).alloc (.cells (bc (List.replicate 32 0)) 23)).heap.size = w.heap.size + 1 + 1 := by simp
  have HA := hide hA
  have HbA := hide hbA
  have HsX := hide hsX
  clear tabs hiP cW cS e1 hA hbA hsX
  go_enter Tryd.func16, Tryd.ntmps16
  go_wp2
  rw [zero84]
  go_loopw [8, 9, 10] (fun _ _ i wr => ∃ k : Nat, k ≤ 32 ∧ i = .int .i64 (k : Int) ∧ wr.heap[w.heap.size + 1 + 1]? = some (.cells (bc (pubs seed index (2 * k) ++ List.replicate (2048 - 32 * (2 * k)) 0)) 67 (0, 0)) ∧ Below (w.heap.size + 1 + 1) ((w.alloc (.cells (bc seed) 23)).alloc (.cells (bc (List.replicate 32 0)) 23)) wr) (fun _ _ i _ => 32 - (intOf i).toNat)
  case atStart =>
    refine ⟨0, by omega, rfl, ?_, ?_⟩
    · have := al1 ((w.alloc (.cells (bc seed) 23)).alloc (.cells (bc (List.replicate 32 0)) 23)) (.cells (bc (List.replicate 2048 0)) 67)
      rw [unhide HsX] at this
      exact this
    · have := (Below.refl ((w.alloc (.cells (bc seed) 23)).alloc (.cells (bc (List.replicate 32 0)) 23)).heap.size ((w.alloc (.cells (bc seed) 23)).alloc (.cells (bc (List.replicate 32 0)) 23))).alloc (Nat.le_refl _) (.cells (bc (List.replicate 2048 0)) 67)
      rw [unhide HsX] at this
      exact this
  case round =>
    obtain ⟨k, hk, rfl, q, hb⟩ := hrel
    by_cases hlt : k < 32
    · have hd1 : decide ((k : Int) < 32) = true := by simp; omega
      have Q := hide q
      have HB := hide hb
      clear q hb
      go_wp2
      go_loopw [9, 13] (fun _ b wr2 => ∃ j : Nat, j ≤ 2 ∧ b = .int .i64 (j : Int) ∧ wr2.heap[w.heap.size + 1 + 1]? = some (.cells (bc (pubs seed index (2 * k + j) ++ List.replicate (2048 - 32 * (2 * k + j)) 0)) 67 (0, 0)) ∧ Below (w.heap.size + 1 + 1) ((w.alloc (.cells (bc seed) 23)).alloc (.cells (bc (List.replicate 32 0)) 23)) wr2) (fun _ b _ => 2 - (intOf b).toNat)
      case atStart => exact ⟨0, by omega, rfl, unhide Q, unhide HB⟩
      case round =>
        clear Q HB
        obtain ⟨j, hj, rfl, q, hb⟩ := hrel
        by_cases hjl : j < 2
        · have hd2 : decide ((j : Int) < 2) = true := by simp; omega
          have hput := unhide HPut k j hlt hjl
          have hll : (pubs seed index (2 * k + j) ++ List.replicate (2048 - 32 * (2 * k + j)) 0).length = 2048 := by
            rw [List.length_append, pubs_length, List.length_replicate]; omega
          have hw : Below w.heap.size w wr := (unhide HbA).trans (hb.mono (by omega))
          have tb := (unhide HT).below hw (Nat.le_refl _)
          have hz : w.heap.size + 1 + 1 < wr.heap.size := (Array.getElem?_eq_some_iff.1 q).1
          have kS : Hid (∀ dd os, Calls Tryd.prog 10 #[.pointer none, .agg (bc seed), .int .i64 x, .int .i64 (k : Int), .int .i64 (j : Int)] (Sort.grow (redrawn wr dd) os) fun e w'' => e = .returned (.agg (bc (pSecret seed index k j))) ∧ ∃ p : Regrown, w'' = Sort.grow (redrawn wr p.d) p.os) := fun dd os => Calls.regrown_of (unhide CS k j (by omega) (by omega) _ (tb.below (below_regrown wr dd os) (Nat.le_refl _)))
          have kP : Hid (∀ dd os, Calls Tryd.prog 14 #[.pointer none, .agg (bc (pSecret seed index k j))] (Sort.grow (redrawn wr dd) os) fun e w'' => e = .returned (.agg (bc (pPublic (pSecret seed index k j)))) ∧ ∃ p : Regrown, w'' = Sort.grow (redrawn wr p.d) p.os) := fun dd os => Calls.regrown_of (public_calls _ (pSecret_length _ _ _ _) _ (tb.below (below_regrown wr dd os) (Nat.le_refl _)))
          have q0 := Below.at hb (by omega) (unhide HA).1
          have rowD : Hid (∀ w', (∃ p : Regrown, w' = Sort.grow (redrawn wr p.d) p.os) → w'.heap[w.heap.size]? = some (.cells (bc seed) 23 (0, 0))) := fun w' ⟨p, hp⟩ => by
            rw [hp]; exact Below.at (below_regrown wr p.d p.os) (by omega) q0
          have hDl : (pPublic (pSecret seed index k j)).length = 32 := pPublic_length _
          have hi2 := digInfo (pPublic (pSecret seed index k j)) hDl
          generalize pPublic (pSecret seed index k j) = PD at *
          generalize pSecret seed index k j = SD at *
          generalize pubs seed index (2 * k + j) ++ List.replicate (2048 - 32 * (2 * k + j)) 0 = L at *
          have b1 : (0 : Int) ≤ k ∧ (k : Int) < 32 := by omega
          have b2 : (0 : Int) ≤ j ∧ (j : Int) < 2 := by omega
          have Q := hide q
          have HB := hide hb
          have HPt := hide hput
          clear q hb hput tb hw q0
          go_wp2_with fail
          refine wp_region_below_tail 12 mixed (by kernel_rfl) ?_
          simp only [List.take_succ_cons, List.take_zero, List.drop_succ_cons, List.drop_zero]
          quiet_step (fail)
          quiet_step (fail)
          quiet_step (fail)
          quiet_step (fail)
          refine wpQuiet_load_row rfl 23 (.tmp 4) rfl w.heap.size rfl 23 _ (0, 0) _ (unhide rowD) Tryd.underlying23 rfl hi0 ?_
          quiet_step (fail)
          quiet_step (fail)
          quiet_step (fail)
          quiet_step (exact unhide kS _ _)
          quiet_step (exact unhide kP _ _)
          quiet_step (fail)
          quiet_step (fail)
          refine wpQuiet_nil ?_
          intro w3 hb3
          have q3 := Below.at hb3 hz (unhide Q)
          have hb5 := (unhide HB).trans (hb3.mono (Nat.le_of_lt hz))
          clear hb3
          go_wp2_with (refine wpList_store_at rfl 23 (.tmp 27) (.tmp 25) rfl (w.heap.size + 1 + 1) (k * 64 + j * 32) L PD 67 rfl rfl q3 (by rw [hDl, hll]; omega) hi2 ?_; intro w4 q4 ho4 hs4 hb4)
          rw [unhide HPt] at q4
          have hb6 := hb5.trans (hb4 _ (Nat.le_refl _))
          have Q4 := hide q4
          have HB6 := hide hb6
          clear q4 ho4 hs4 hb4 hb5 q3 hb6
          go_wp2
          go_roundw
          case rel => exact ⟨j + 1, by omega, by go_num, unhide Q4, unhide HB6⟩
          case measure => simp [intOf]; omega
        · have hd2 : decide ((j : Int) < 2) = false := by simp; omega
          have hj2 : j = 2 := by omega
          subst hj2
          have Q := hide q
          have HB := hide hb
          clear q hb
          go_wp2
          go_roundw
          case rel => exact ⟨k + 1, by omega, by go_num, unhide Q, unhide HB⟩
          case measure => simp [intOf]; omega
    · have hd1 : decide ((k : Int) < 32) = false := by simp; omega
      have hk32 : k = 32 := by omega
      subst hk32
      have ee : pubs seed index (2 * 32) ++ List.replicate (2048 - 32 * (2 * 32)) 0 = pubs seed index 64 := by simp
      rw [ee] at q
      have hiP := unhide HiP
      have cW := unhide CW
      have hw : Below w.heap.size w wr := (unhide HbA).trans (hb.mono (by omega))
      have tb := (unhide HT).below hw (Nat.le_refl _)
      have hz : w.heap.size + 1 + 1 < wr.heap.size := (Array.getElem?_eq_some_iff.1 q).1
      have q1 := Below.at hb (by omega) (unhide HA).2
      generalize pubs seed index 64 = L at *
      have CW2 := hide cW
      clear hb ee CW cW CS HPut
      go_wp2_with (refine wpList_load_row rfl 67 (.tmp 7) rfl (w.heap.size + 1 + 1) rfl 67 _ (0, 0) _ q Tryd.underlying67 rfl hiP ?_)
      refine (unhide CW2 _ tb).mono ?_
      rintro e w3 ⟨rfl, b3⟩
      have q3 := Below.at b3 (by omega) q1
      have hw3 := hw.trans (b3.mono (by omega))
      clear b3 q1 q tb
      go_wp2_with (refine wpList_store_row rfl 23 (.tmp 6) (.tmp 32) rfl (w.heap.size + 1) _ rfl rfl 23 _ q3 hi1 hz1 ho1 ?_)
      exact bodyPost_ret (results_cell_row rfl _ _ (w.heap.size + 1) _ _ _ _ rfl (setRow_heap _ _ _ _ _ _ q3) Tryd.underlying23 rfl hi1) rfl ⟨rfl, below_setRow hw3 (by omega) _⟩
end Go.Proofs.YtdlgkmaknoaodaaDoor

namespace Go.Proofs.YtdlgkmaknoaodaaDoor
open Go Go.RowKit

theorem mapM_some {α β : Type} (f : α → Option β) (g : α → β) (l : List α) (h : ∀ x ∈ l, f x = some (g x)) : l.mapM f = some (l.map g) := by
  induction l with
  | nil => rfl
  | cons x l ih =>
    rw [List.mapM_cons, h x (by simp), ih (fun y hy => h y (by simp [hy]))]; rfl

/-- The data of an array of integers. -/
theorem keyLits_ints {P : Program} (t e : TypeId) (n : Nat) (k : IntKind) (hu : P.underlying t = some (.array n e)) (he : P.underlying e = some (.int k)) (hce : P.cellsOf e = 1) (hct : P.cellsOf t = n)
    (zs : List Int) (hl : zs.length = n) (hw : ∀ z ∈ zs, (Lit.int k z).wf = true) : ∃ la, P.keyLits 2 t (zs.map (Value.int k)) = some la := by
  unfold Program.keyLits
  simp only [hu]
  rw [if_pos (by simp [hl, hct])]
  rw [mapM_some _ (fun i => [Lit.int k (zs.getD i 0)]) _ (fun i hi => ?_)]
  · exact ⟨_, rfl⟩
  · have hi' : i < zs.length := by rw [hl]; exact List.mem_range.1 hi
    rw [hce, Nat.mul_one, List.drop_eq_getElem_cons (by simpa using hi')]
    unfold Program.keyLits
    simp only [he]
    have hz : (Lit.int k zs[i]).wf = true := hw _ (List.getElem_mem _)
    simp [hz, hi']

theorem equalIn_refl {P : Program} (t : TypeId) (m D : Nat) (hm : m ≤ 10000) (hk : P.keyTypeAt m t = true) (cs : Array Value) (hf : (Value.agg cs).formed P t = true) (la : List Lit) (hla : P.keyLits D t cs.toList = some la) (w : World) :
    (Op.equalIn 10000 t (.agg cs) (.agg cs)).run P w = .ok true w := by
  obtain ⟨r, hr, hiff⟩ := run_equalIn_deep (P := P) (10000 - m) m t hk w D D (.agg cs) (.agg cs) la la hf hf hla hla
  rw [show 10000 - m + m = 10000 by omega] at hr
  obtain rfl : r = true := hiff.2 rfl
  exact hr
/-- A value of such a type equals itself. -/
theorem eql_refl {P : Program} (t : TypeId) (m D : Nat) (hm : m ≤ 10000) (hk : P.keyTypeAt m t = true) (cs : Array Value) (hf : (Value.agg cs).formed P t = true) (la : List Lit) (hla : P.keyLits D t cs.toList = some la) (w : World) :
    (binOp .eql t (.agg cs) (.agg cs)).run P w = .ok (.bool true) w := by
  obtain ⟨r, hr, hiff⟩ := run_equalIn_deep (P := P) (10000 - m) m t hk w D D (.agg cs) (.agg cs) la la hf hf hla hla
  rw [show 10000 - m + m = 10000 by omega] at hr
  obtain rfl : r = true := hiff.2 rfl
  rw [run_eql_struct, hr]; rfl

end Go.Proofs.YtdlgkmaknoaodaaDoor

namespace Go.Proofs.YtdlgkmaknoaodaaDoor
open Go Go.RowKit Go.Maps
set_option linter.unusedSimpArgs false
set_option linter.unusedVariables false

theorem kLaidOut : laidOutB Tryd.prog = true := by kernel_rfl
theorem rowOfD : (23 : TypeId) < Tryd.prog.types.size := of_decide_eq_true (by kernel_rfl)
theorem wideD : (match Tryd.prog.underlying 23 with | some (.array _ _) | some (.struct _) => true | _ => false) = true := by rw [Tryd.underlying23]
set_option maxRecDepth 100000 in
theorem lawD : Keyed Tryd.prog 23 := Keyed.of_law (deep_law_laid kLaidOut (m := 2) (by omega) rowOfD (by kernel_rfl) wideD)
theorem lawS : Keyed Tryd.prog 9 := string_keyed Tryd.underlying9
/-- What the elements of a log's maps are is never asked. -/
def R0 (_ : Value) : Option (DataW Unit × List MemPlace) := some (.agg [], [])
abbrev u0 : DataW Unit := .agg []
theorem keyOf_text (s : List UInt8) (hs : s.length ≤ maxLen) : keyOf Tryd.prog 9 (.string (str s)) = some (.string s) := by
  have := WideMaps.keyOf_string_mk (P := Tryd.prog) Tryd.underlying9 (s := str s) (by rw [str_size]; exact hs)
  rw [str_toList] at this
  exact this
/-- The data of an array of integers, whatever the depth. -/
theorem keyLits_intsK {P : Program} (t e : TypeId) (n D : Nat) (k : IntKind) (hu : P.underlying t = some (.array n e)) (he : P.underlying e = some (.int k)) (hce : P.cellsOf e = 1) (hct : P.cellsOf t = n)
    (zs : List Int) (hl : zs.length = n) (hw : ∀ z ∈ zs, (Lit.int k z).wf = true) : ∃ la, P.keyLits (D + 2) t (zs.map (Value.int k)) = some la := by
  unfold Program.keyLits
  simp only [hu]
  rw [if_pos (by simp [hl, hct])]
  rw [mapM_some _ (fun i => [Lit.int k (zs.getD i 0)]) _ (fun i hi => ?_)]
  · exact ⟨_, rfl⟩
  · have hi' : i < zs.length := by rw [hl]; exact List.mem_range.1 hi
    rw [hce, Nat.mul_one, List.drop_eq_getElem_cons (by simpa using hi')]
    unfold Program.keyLits
    simp only [he]
    have hz : (Lit.int k zs[i]).wf = true := hw _ (List.getElem_mem _)
    simp [hz, hi']
theorem keyOf_dig (d : List UInt8) (hd : d.length = 32) : ∃ l, keyOf Tryd.prog 23 (.agg (bc d)) = some l := by
  have hf : (Value.agg (bc d)).formed Tryd.prog 23 = true := by simp only [Value.formed, Tryd.underlying23, bc_size, hd]; kernel_rfl
  have hk : Tryd.prog.keyType 23 = true := by kernel_rfl
  obtain ⟨la, hla⟩ := keyLits_intsK (P := Tryd.prog) 23 5 32 (Tryd.prog.types.size - 1) .u8 Tryd.underlying23 Tryd.underlying5 (by kernel_rfl) (by kernel_rfl) (d.map fun b => (b.toNat : Int)) (by simpa using hd) (fun z hz => by
    obtain ⟨b, _, rfl⟩ := List.mem_map.1 hz
    have := b.toNat_lt
    simp [Lit.wf, IntKind.min, IntKind.max, IntKind.signed, IntKind.bits]; omega)
  have hts : Tryd.prog.types.size - 1 + 2 = Tryd.prog.types.size + 1 := by
    have h1 : 1 ≤ Tryd.prog.types.size := Nat.lt_of_le_of_lt (Nat.zero_le _) rowOfD
    generalize Tryd.prog.types.size = z at *
    omega
  rw [hts] at hla
  refine ⟨.string (keyBytes la), ?_⟩
  unfold keyOf
  simp only [Tryd.underlying23]
  rw [if_pos (by rw [hk, hf]; rfl)]
  have e : (Value.agg (bc d)).cells.toList = (d.map fun b => (b.toNat : Int)).map (Value.int .u8) := by
    show (bc d).toList = _
    simp [bc, Lib.byteCells]
  rw [e, hla]; rfl
noncomputable def dKey (d : List UInt8) : Lit := (keyOf Tryd.prog 23 (.agg (bc d))).getD (.bool false)
theorem dKey_is (d : List UInt8) (hd : d.length = 32) : keyOf Tryd.prog 23 (.agg (bc d)) = some (dKey d) := by
  obtain ⟨l, hl⟩ := keyOf_dig d hd
  unfold dKey; rw [hl]; rfl
theorem bc_injK {l m : List UInt8} (h : bc l = bc m) : l = m := by
  unfold bc Lib.byteCells at h
  have h2 := congrArg Array.toList h
  simp only at h2
  refine List.map_inj_right ?_ |>.1 h2
  intro a b hab
  injection hab with _ hab
  exact UInt8.toNat.inj (by exact_mod_cast hab)
set_option maxRecDepth 100000 in
theorem dKey_inj (d e : List UInt8) (hd : d.length = 32) (he : e.length = 32) (h : dKey d = dKey e) : d = e := by
  have h1 := dKey_is d hd
  have h2 := dKey_is e he
  rw [← h] at h2
  have := lawD.inj h1 h2
  injection this with this
  exact bc_injK this
/-- What is kept beside a log: all blocks but its own and its maps'. -/
structure But (b : Nat) (ms : Option (Nat × Nat)) (w w' : World) : Prop where
  os : w'.os = w.os
  tape : w'.tape = w.tape
  output : w'.output = w.output
  size : w.heap.size ≤ w'.heap.size
  block : ∀ k, k < w.heap.size → k ≠ b → (∀ m, ms = some m → k ≠ m.1 ∧ k ≠ m.2) → w'.heap[k]? = w.heap[k]?
theorem But.of_below {b : Nat} {ms : Option (Nat × Nat)} {w w' : World} (h : Below w.heap.size w w') : But b ms w w' := ⟨h.os, h.tape, h.output, h.size, fun k hk _ _ => h.block k hk⟩
theorem But.trans {b : Nat} {ms ms' : Option (Nat × Nat)} {w w' w'' : World} (h : But b ms w w') (h' : But b ms' w' w'') (hm : ms' = ms ∨ (ms = none ∧ ∀ m, ms' = some m → w.heap.size ≤ m.1 ∧ w.heap.size ≤ m.2)) : But b ms w w'' := by
  refine ⟨h'.os.trans h.os, h'.tape.trans h.tape, h'.output.trans h.output, Nat.le_trans h.size h'.size, fun k hk hb hms => ?_⟩
  refine (h'.block k (Nat.lt_of_lt_of_le hk h.size) hb fun m hm' => ?_).trans (h.block k hk hb hms)
  rcases hm with rfl | ⟨rfl, hn⟩
  · exact hms m hm'
  · have := hn m hm'; omega
/-- A log of inputs. -/
def LogAt (w : World) (b : Nat) (ms : Option (Nat × Nat)) (ins : List (List UInt8)) : Prop :=
  match ms with
  | none => ins = [] ∧ w.heap[b]? = some (.cells #[.map none, .map none] 52 (0, 0))
  | some (m1, m2) => w.heap[b]? = some (.cells #[.map (some m1), .map (some m2)] 52 (0, 0)) ∧ m1 ≠ m2 ∧ b ≠ m1 ∧ b ≠ m2 ∧
      w.ownsMap Tryd.prog 9 R0 m1 ins.length (setOf u0 (ins.map Lit.string)) ∧ w.ownsMap Tryd.prog 23 R0 m2 ins.length (setOf u0 (ins.map fun s => dKey (pSum [s])))
end Go.Proofs.YtdlgkmaknoaodaaDoor

namespace Go.Proofs.YtdlgkmaknoaodaaDoor
open Go Go.RowKit Go.Maps
open Go.WideElems (Fit rd rg pl rd_val)
open Go.ChangeMaps
set_option linter.unusedSimpArgs false
set_option linter.unusedVariables false

/-- How a list that stands in a map reads: as its own value. -/
def RV : Value → Option (DataW Unit × List MemPlace)
  | .slice none n c => some (.agg [.lit (.int .i64 (n : Int)), .lit (.int .i64 (c : Int))], [])
  | .slice (some ⟨g, o, none⟩) n c => some (.agg [.lit (.int .i64 (g : Int)), .lit (.int .i64 (o : Int)), .lit (.int .i64 (n : Int)), .lit (.int .i64 (c : Int))], [])
  | _ => none
abbrev nilD : DataW Unit := .agg [.lit (.int .i64 0), .lit (.int .i64 0)]
theorem RV_inj {v v' : Value} {z z' : DataW Unit × List MemPlace} (h : RV v = some z) (h' : RV v' = some z') (e : z.1 = z'.1) : v = v' := by
  unfold RV at h h'
  split at h <;> split at h' <;> simp_all <;> (subst h; subst h'; simp_all) <;> omega
theorem RV_places {v : Value} {z : DataW Unit × List MemPlace} (h : RV v = some z) : z.2 = [] := by
  unfold RV at h
  split at h
  · cases h; rfl
  · cases h; rfl
  · cases h
theorem RV_nil : RV (.slice none 0 0) = some (nilD, []) := rfl
theorem RV_some (g n c : Nat) : ∃ d, RV (.slice (some ⟨g, 0, none⟩) n c) = some (d, []) := ⟨_, rfl⟩

/-- The inputs of one digest. -/
def grp (d : List UInt8) (ins : List (List UInt8)) : List (List UInt8) := ins.filter fun s => decide (pSum [s] = d)
/-- Noted once. -/
def rnoted (s : List UInt8) (ins : List (List UInt8)) : List (List UInt8) := if s ∈ ins then ins else ins ++ [s]
theorem grp_same (s d : List UInt8) (ins : List (List UInt8)) (h : pSum [s] = d) : grp d (ins ++ [s]) = grp d ins ++ [s] := by
  simp [grp, List.filter_append, h]
theorem grp_other (s d : List UInt8) (ins : List (List UInt8)) (h : pSum [s] ≠ d) : grp d (ins ++ [s]) = grp d ins := by
  simp [grp, List.filter_append, h]
theorem mem_grp (s : List UInt8) (ins : List (List UInt8)) : s ∈ grp (pSum [s]) ins ↔ s ∈ ins := by simp [grp]
theorem grp_le (d : List UInt8) (ins : List (List UInt8)) : (grp d ins).length ≤ ins.length := List.length_filter_le _ _
/-- How many digests. -/
def cntR : List (List UInt8) → Nat
  | [] => 0
  | s :: r => if r.any (fun t => decide (pSum [t] = pSum [s])) then cntR r else cntR r + 1
def cnt (ins : List (List UInt8)) : Nat := cntR ins.reverse
theorem cntR_le : ∀ l : List (List UInt8), cntR l ≤ l.length
  | [] => Nat.le_refl _
  | s :: r => by
    have := cntR_le r
    unfold cntR
    split <;> simp <;> omega
theorem cntR_lt : ∀ (l : List (List UInt8)) (s t : List UInt8), s ∈ l → t ∈ l → s ≠ t → pSum [s] = pSum [t] → cntR l < l.length
  | [], s, t, hs, _, _, _ => by cases hs
  | x :: r, s, t, hs, ht, hne, he => by
    have hle := cntR_le r
    unfold cntR
    by_cases hx : r.any (fun t => decide (pSum [t] = pSum [x])) = true
    · rw [if_pos hx]; simp; omega
    · rw [if_neg hx]
      have no : ∀ y ∈ r, pSum [y] ≠ pSum [x] := fun y hy e => hx (List.any_eq_true.2 ⟨y, hy, by simpa using e⟩)
      rcases List.mem_cons.1 hs with rfl | hs'
      · rcases List.mem_cons.1 ht with rfl | ht'
        · exact absurd rfl hne
        · exact absurd he.symm (no t ht')
      · rcases List.mem_cons.1 ht with rfl | ht'
        · exact absurd he (no s hs')
        · have := cntR_lt r s t hs' ht' hne he
          simp; omega
theorem cnt_lt (ins : List (List UInt8)) (s t : List UInt8) (hs : s ∈ ins) (ht : t ∈ ins) (hne : s ≠ t) (he : pSum [s] = pSum [t]) : cnt ins < ins.length := by
  have := cntR_lt ins.reverse s t (by simpa using hs) (by simpa using ht) hne he
  simpa [cnt] using this
theorem cnt_snoc (ins : List (List UInt8)) (s : List UInt8) : cnt (ins ++ [s]) = if decide (grp (pSum [s]) ins ≠ []) = true then cnt ins else cnt ins + 1 := by
  have e : ins.reverse.any (fun t => decide (pSum [t] = pSum [s])) = decide (grp (pSum [s]) ins ≠ []) := by
    rw [List.any_reverse]
    by_cases h : ins.any (fun t => decide (pSum [t] = pSum [s])) = true
    · rw [h]
      obtain ⟨y, hy, hyy⟩ := List.any_eq_true.1 h
      symm; simp only [decide_eq_true_eq]
      intro h0
      have : y ∈ grp (pSum [s]) ins := by simp [grp, hy]; simpa using hyy
      rw [h0] at this; cases this
    · have h' : ins.any (fun t => decide (pSum [t] = pSum [s])) = false := by simpa using h
      rw [h']
      symm; simp only [decide_eq_false_iff_not, Classical.not_not]
      refine List.filter_eq_nil_iff.2 fun y hy => ?_
      have := List.any_eq_false.1 h' y hy
      simpa using this
  unfold cnt
  rw [List.reverse_append, List.reverse_cons, List.reverse_nil, List.nil_append, List.singleton_append, cntR, e]

theorem owns_at {base n sz : Nat} {w w' : World} {t : TypeId} {v : Value} {xs : List Value} (h : w.ownsRow base t sz v n xs) (hk : ∀ k, v.ownBlock = some k → w'.heap[k]? = w.heap[k]?) : w'.ownsRow base t sz v n xs := by
  refine ⟨h.1, ?_⟩
  rcases h.2 with h2 | ⟨g, cap, cur, rfl, hB, hg, rest⟩
  · exact .inl h2
  · exact .inr ⟨g, cap, cur, rfl, hB, (hk g rfl).trans hg, rest⟩
theorem map_at {k : TypeId} {R : Value → Option (DataW Unit × List MemPlace)} {b n : Nat} {D : DataW Unit} {P : Program} {w w' : World} (h : w.ownsMap P k R b n D) (hb : w'.heap[b]? = w.heap[b]?) : w'.ownsMap P k R b n D := by
  obtain ⟨es, c, h1, h2⟩ := h
  exact ⟨es, c, hb.trans h1, h2⟩
theorem owns_room {base n sz : Nat} {w : World} {t : TypeId} {v : Value} {xs : List Value} (h : w.ownsRow base t sz v n xs) : v = .slice none 0 0 ∨ ∃ g c, v = .slice (some ⟨g, 0, none⟩) n c := by
  rcases h.2 with ⟨rfl, _⟩ | ⟨g, cap, cur, rfl, _⟩
  · exact .inl rfl
  · exact .inr ⟨g, cap, rfl⟩
theorem owns_RV {base n sz : Nat} {w : World} {t : TypeId} {v : Value} {xs : List Value} (h : w.ownsRow base t sz v n xs) : ∃ d, RV v = some (d, []) := by
  rcases owns_room h with rfl | ⟨g, c, rfl⟩
  · exact ⟨_, rfl⟩
  · exact ⟨_, rfl⟩

structure RLog (w : World) (b : Nat) (S : Nat → Prop) (ins : List (List UInt8)) (base m : Nat) (iv : Value) (D : DataW Unit) (val : List UInt8 → Value) : Prop where
  obj : w.heap[b]? = some (.cells #[iv, .map (some m)] 56 (0, 0))
  ne : b ≠ m
  lob : b < base
  lom : m < base
  bs : base ≤ w.heap.size
  inp : w.ownsRow base 9 1 iv ins.length (ins.map fun s => .string (str s))
  map : w.ownsMap Tryd.prog 23 RV m ins.length D
  look : ∀ d, d.length = 32 → RV (val d) = some (D.atKey (dKey d) nilD, [])
  vals : ∀ d, d.length = 32 → w.ownsRow base 9 1 (val d) (grp d ins).length ((grp d ins).map fun s => .string (str s))
  apart : ∀ d e, d.length = 32 → e.length = 32 → d ≠ e → ∀ k, (val d).ownBlock = some k → (val e).ownBlock ≠ some k
  away : ∀ d, d.length = 32 → ∀ k, (val d).ownBlock = some k → iv.ownBlock ≠ some k
  has : ∀ d, d.length = 32 → has D (dKey d) = decide (grp d ins ≠ [])
  size : Maps.size D = cnt ins
  myb : S b
  mym : S m
  myi : ∀ k, iv.ownBlock = some k → S k
  myv : ∀ d, d.length = 32 → ∀ k, (val d).ownBlock = some k → S k
  old : ∀ k, S k → k < w.heap.size
def RLogAt (w : World) (b : Nat) (S : Nat → Prop) (ins : List (List UInt8)) : Prop := ∃ base m iv D val, RLog w b S ins base m iv D val
theorem RLog.kept {w w' : World} {b : Nat} {S : Nat → Prop} {ins : List (List UInt8)} {base m : Nat} {iv : Value} {D : DataW Unit} {val : List UInt8 → Value} (h : RLog w b S ins base m iv D val) (hk : ∀ k, S k → w'.heap[k]? = w.heap[k]?) (hs : w.heap.size ≤ w'.heap.size) : RLog w' b S ins base m iv D val :=
  ⟨(hk b h.myb).trans h.obj, h.ne, h.lob, h.lom, Nat.le_trans h.bs hs, owns_at h.inp (fun k e => hk k (h.myi k e)), map_at h.map (hk m h.mym), h.look, fun d hd => owns_at (h.vals d hd) (fun k e => hk k (h.myv d hd k e)), h.apart, h.away, h.has, h.size, h.myb, h.mym, h.myi, h.myv, fun k hS => Nat.lt_of_lt_of_le (h.old k hS) hs⟩
theorem RLogAt.kept {w w' : World} {b : Nat} {S : Nat → Prop} {ins : List (List UInt8)} (h : RLogAt w b S ins) (hk : ∀ k, S k → w'.heap[k]? = w.heap[k]?) (hs : w.heap.size ≤ w'.heap.size) : RLogAt w' b S ins := by
  obtain ⟨base, m, iv, D, val, h⟩ := h
  exact ⟨base, m, iv, D, val, h.kept hk hs⟩
theorem RLogAt.old {w : World} {b : Nat} {S : Nat → Prop} {ins : List (List UInt8)} (h : RLogAt w b S ins) : ∀ k, S k → k < w.heap.size := by
  obtain ⟨base, m, iv, D, val, h⟩ := h
  exact h.old
theorem RLogAt.mine {w : World} {b : Nat} {S : Nat → Prop} {ins : List (List UInt8)} (h : RLogAt w b S ins) : S b := by
  obtain ⟨base, m, iv, D, val, h⟩ := h
  exact h.myb
theorem RLog.below {w w' : World} {b : Nat} {S : Nat → Prop} {ins : List (List UInt8)} {base m : Nat} {iv : Value} {D : DataW Unit} {val : List UInt8 → Value} (h : RLog w b S ins base m iv D val) (hb : Below w.heap.size w w') : RLog w' b S ins base m iv D val := h.kept (fun k hS => hb.block k (h.old k hS)) hb.size
theorem RLogAt.below {w w' : World} {b : Nat} {S : Nat → Prop} {ins : List (List UInt8)} (h : RLogAt w b S ins) (hb : Below w.heap.size w w') : RLogAt w' b S ins := h.kept (fun k hS => hb.block k (h.old k hS)) hb.size
/-- What is kept beside a log: all blocks but its own. -/
structure RBut (S : Nat → Prop) (w w' : World) : Prop where
  os : w'.os = w.os
  tape : w'.tape = w.tape
  output : w'.output = w.output
  size : w.heap.size ≤ w'.heap.size
  block : ∀ k, k < w.heap.size → ¬ S k → w'.heap[k]? = w.heap[k]?
/-- A step that a log goes through: what it holds behind it, what is kept. -/
def RStep (b : Nat) (S : Nat → Prop) (ins : List (List UInt8)) (w w' : World) : Prop := ∃ S', RLogAt w' b S' ins ∧ RBut S w w' ∧ ∀ k, S' k → S k ∨ w.heap.size ≤ k
theorem RBut.refl (S : Nat → Prop) (w : World) : RBut S w w := ⟨rfl, rfl, rfl, Nat.le_refl _, fun _ _ _ => rfl⟩
theorem RBut.trans {S S' : Nat → Prop} {w w' w'' : World} (h : RBut S w w') (h' : RBut S' w' w'') (hs : ∀ k, S' k → S k ∨ w.heap.size ≤ k) : RBut S w w'' :=
  ⟨h'.os.trans h.os, h'.tape.trans h.tape, h'.output.trans h.output, Nat.le_trans h.size h'.size, fun k hk hS => (h'.block k (Nat.lt_of_lt_of_le hk h.size) (fun h1 => (hs k h1).elim hS (fun h2 => by omega))).trans (h.block k hk hS)⟩
theorem RBut.of_below {S : Nat → Prop} {w w' : World} (h : Below w.heap.size w w') : RBut S w w' := ⟨h.os, h.tape, h.output, h.size, fun k hk _ => h.block k hk⟩
theorem RStep.same {b : Nat} {S : Nat → Prop} {ins : List (List UInt8)} {w w' : World} (h : RLogAt w b S ins) (hb : Below w.heap.size w w') : RStep b S ins w w' := ⟨S, h.below hb, RBut.of_below hb, fun k h => .inl h⟩
theorem RStep.ahead {b : Nat} {S : Nat → Prop} {ins : List (List UInt8)} {w w' w'' : World} (hb : Below w.heap.size w w') (h : RStep b S ins w' w'') : RStep b S ins w w'' := by
  obtain ⟨S', h1, h2, h3⟩ := h
  exact ⟨S', h1, (RBut.of_below hb).trans h2 (fun k hk => .inl hk), fun k hk => (h3 k hk).imp_right (Nat.le_trans hb.size)⟩
/-- Behind it what is no part of the log, and newer than the call, may turn. -/
theorem RStep.close {b : Nat} {S : Nat → Prop} {ins : List (List UInt8)} {w w3 w4 w5 : World} (hb : Below w.heap.size w w3) (h : RStep b S ins w3 w4) (hS : ∀ k, S k → k < w.heap.size) (ho : w5.os = w4.os) (ht : w5.tape = w4.tape) (hp : w5.output = w4.output) (hs : w4.heap.size ≤ w5.heap.size)
    (hk : ∀ k, k < w4.heap.size → k < w.heap.size ∨ w3.heap.size ≤ k → w5.heap[k]? = w4.heap[k]?) : RStep b S ins w w5 := by
  obtain ⟨S', h1, h2, h3⟩ := h
  have hz := hb.size
  refine ⟨S', h1.kept (fun k hk' => hk k (h1.old k hk') ((h3 k hk').imp_left (hS k))) hs, ⟨ho.trans (h2.os.trans hb.os), ht.trans (h2.tape.trans hb.tape), hp.trans (h2.output.trans hb.output), Nat.le_trans hz (Nat.le_trans h2.size hs), fun k hk' hn => ?_⟩, fun k hk' => (h3 k hk').imp_right (Nat.le_trans hz)⟩
  rw [hk k (Nat.lt_of_lt_of_le hk' (Nat.le_trans hz h2.size)) (.inl hk'), h2.block k (Nat.lt_of_lt_of_le hk' hz) hn, hb.block k hk']
theorem RStep.trans {b : Nat} {S S' : Nat → Prop} {ins : List (List UInt8)} {w w' w'' : World} (h2 : RBut S w w') (h3 : ∀ k, S' k → S k ∨ w.heap.size ≤ k) (h : RStep b S' ins w' w'') : RStep b S ins w w'' := by
  obtain ⟨S'', k1, k2, k3⟩ := h
  exact ⟨S'', k1, h2.trans k2 h3, fun k hk => (k3 k hk).elim (h3 k) (fun hh => .inr (Nat.le_trans h2.size hh))⟩
theorem setRow_step {w w4 : World} {b : Nat} {S : Nat → Prop} {ins : List (List UInt8)} {w3 : World} (hb : Below w.heap.size w w3) (h : RStep b S ins w3 w4) (hS : ∀ k, S k → k < w.heap.size) (N : Nat) (hN : w.heap.size ≤ N) (hN3 : N < w3.heap.size) (cs : Array Value) : RStep b S ins w (w4.setRow N cs) :=
  h.close hb hS rfl rfl rfl (by rw [setRow_size]; exact Nat.le_refl _) (fun k _ hk => setRow_other _ _ _ _ (by omega))

theorem key_one : ∀ (l : List MapEntry), (l.map (·.key)).Nodup → ∀ x ∈ l, ∀ y ∈ l, x.key = y.key → x = y
  | [], _, x, hx, _, _, _ => by cases hx
  | a :: r, hn, x, hx, y, hy, e => by
    simp only [List.map_cons, List.nodup_cons] at hn
    rcases List.mem_cons.1 hx with rfl | hx' <;> rcases List.mem_cons.1 hy with rfl | hy'
    · rfl
    · exact absurd (List.mem_map.2 ⟨y, hy', e.symm⟩) hn.1
    · exact absurd (List.mem_map.2 ⟨x, hx', e⟩) hn.1
    · exact key_one r hn.2 x hx' y hy' e
/-- m[k], to be stored at again. -/
theorem map_entry {P : Program} {t k e : TypeId} {R : Value → Option (DataW Unit × List MemPlace)} {b n : Nat} {D : DataW Unit} {w : World} (h : w.ownsMap P k R b n D) (K : WideMaps.KeyLaw P k) (ht : P.underlying t = some (.map k e)) {z : Value} (hz : ∀ u : World, (zeroValue e).run P u = .ok z u) {zd : DataW Unit} (hzd : R z = some (zd, []))
    (hn : n < maxLen) {key : Value} {kl : Lit} (hkey : keyOf P k key = some kl) :
    ∃ (v0 : Value) (st : Value) (es1 : Array MapEntry) (c1 : Nat), (Instr.mapEntry t (.map (some b)) key).run P w = .ok (.tuple #[v0, st]) (setBlock w b (.map es1 c1)) ∧ (∃ ps, R v0 = some (D.atKey kl zd, ps)) ∧
      ∀ (w2 : World) (val : Value) (d : DataW Unit), R val = some (d, []) → w2.heap[b]? = some (.map es1 c1) → ∃ es' c', (Instr.entryStore t (.map (some b)) st val).run P w2 = .ok () (setBlock w2 b (.map es' c')) ∧
        ∀ w3 : World, w3.heap[b]? = some (.map es' c') → w3.ownsMap P k R b (n + 1) (D.put kl d) := by
  have h0 := h
  obtain ⟨es, clock, hb, F, hs, rfl⟩ := h
  have K' := Keyed.of_law K
  obtain ⟨v0, st, es1, c1, hr, hwho, hst⟩ := WideElems.entry_then_store K ht hz hb F hkey
  refine ⟨v0, goInt st, es1, c1, hr, ?_, fun w2 val d hv hw2 => ?_⟩
  · rcases Maps.fit_look false K' ht (hz w) hb F hkey with ⟨hrun, hno, hat⟩ | ⟨e0, y, hm0, h3, hrun, hR, hat, _⟩
    · rcases hwho with ⟨e1, he1, hk1, _⟩ | ⟨_, rfl⟩
      · exact absurd hk1 (hno e1 he1)
      · exact ⟨[], by rw [hat zd]; exact hzd⟩
    · rcases hwho with ⟨e1, he1, hk1, rfl⟩ | ⟨hno, _⟩
      · have e2 := key_one es.toList F.stamped.2.2 e1 he1 e0 hm0 (hk1.trans h3.symm)
        subst e2
        exact ⟨y.2, by rw [hat zd]; exact hR⟩
      · exact absurd h3 (hno e0 hm0)
  · obtain ⟨es', c', hr2, hr3⟩ := hst w2 val hw2
    obtain ⟨w', hu, ho, _⟩ := h0.update K' ht hn hkey hv
    refine ⟨es', c', hr2, fun w3 hw3 => map_at ho ?_⟩
    rw [hr3] at hu
    simp only [Result.ok.injEq, true_and] at hu
    rw [hw3, ← hu]
    exact (heap_setBlock_same hb _).symm
end Go.Proofs.YtdlgkmaknoaodaaDoor

namespace Go.Proofs.YtdlgkmaknoaodaaDoor
open Go Go.RowKit Go.Maps
set_option linter.unusedSimpArgs false
set_option linter.unusedVariables false

set_option maxRecDepth 100000 in
theorem dKey_lit (d : List UInt8) (hd : d.length = 32) : WideAt.IsKeyLit (dKey d) := lawD.key (dKey_is d hd)
set_option maxRecDepth 100000 in
theorem RLog.add {w w' : World} {b : Nat} {S : Nat → Prop} {ins : List (List UInt8)} {base m : Nat} {iv : Value} {D : DataW Unit} {val : List UInt8 → Value} (h : RLog w b S ins base m iv D val) (s d : List UInt8) (hd : d.length = 32) (hds : pSum [s] = d) (iv' v' : Value) (dv : DataW Unit)
    (hz : w.heap.size ≤ w'.heap.size) (hobj : w'.heap[b]? = some (.cells #[iv', .map (some m)] 56 (0, 0)))
    (hi : w'.ownsRow base 9 1 iv' (ins.length + 1) ((ins.map fun s => .string (str s)) ++ [.string (str s)])) (hi2 : iv'.ownBlock = iv.ownBlock ∨ ∃ g, iv'.ownBlock = some g ∧ w.heap.size ≤ g)
    (hm : w'.ownsMap Tryd.prog 23 RV m (ins.length + 1) (D.put (dKey d) dv)) (hv : RV v' = some (dv, []))
    (ho : w'.ownsRow base 9 1 v' ((grp d ins).length + 1) (((grp d ins).map fun s => .string (str s)) ++ [.string (str s)])) (hv2 : v'.ownBlock = (val d).ownBlock ∨ ∃ g, v'.ownBlock = some g ∧ w.heap.size ≤ g)
    (hne : ∀ k, v'.ownBlock = some k → iv'.ownBlock ≠ some k)
    (hk : ∀ k, k < w.heap.size → k ≠ b → k ≠ m → iv.ownBlock ≠ some k → (val d).ownBlock ≠ some k → w'.heap[k]? = w.heap[k]?) :
    ∃ S', RLog w' b S' (ins ++ [s]) base m iv' (D.put (dKey d) dv) (fun e => if e = d then v' else val e) ∧ ∀ k, S' k → S k ∨ w.heap.size ≤ k := by
  have hlt : ∀ k, iv'.ownBlock = some k → k < w'.heap.size := fun k e => (hi.lt k e).2
  have hlv : ∀ k, v'.ownBlock = some k → k < w'.heap.size := fun k e => (ho.lt k e).2
  have tidy : Tidy D := h.map.tidy lawD
  have inj : ∀ e : List UInt8, e.length = 32 → e ≠ d → dKey e ≠ dKey d := fun e he hne h1 => hne (dKey_inj e d he hd h1)
  have oldv : ∀ e, e.length = 32 → ∀ k, (val e).ownBlock = some k → k < w.heap.size := fun e he k hk' => h.old k (h.myv e he k hk')
  have oldi : ∀ k, iv.ownBlock = some k → k < w.heap.size := fun k hk' => h.old k (h.myi k hk')
  -- another digest's list lies apart from what turned
  have keptv : ∀ e, e.length = 32 → e ≠ d → ∀ k, (val e).ownBlock = some k → w'.heap[k]? = w.heap[k]? := fun e he hne' k hk' => by
    have hb := (h.vals e he).lt k hk'
    refine hk k (oldv e he k hk') (by have := h.lob; omega) (by have := h.lom; omega) (h.away e he k hk') (fun h1 => ?_)
    exact h.apart e d he hd hne' k hk' h1
  refine ⟨fun k => S k ∨ iv'.ownBlock = some k ∨ v'.ownBlock = some k, ⟨hobj, h.ne, h.lob, h.lom, Nat.le_trans h.bs hz, ?_, ?_, ?_, ?_, ?_, ?_, ?_, ?_, .inl h.myb, .inl h.mym, fun k e => .inr (.inl e), ?_, ?_⟩, ?_⟩
  · rw [List.length_append, List.map_append]; exact hi
  · rw [List.length_append]; exact hm
  · intro e he
    by_cases hed : e = d
    · subst hed
      rw [if_pos rfl, atKey_put_same tidy.isMap (dKey_lit e he)]; exact hv
    · rw [if_neg hed, atKey_put_other (inj e he hed)]; exact h.look e he
  · intro e he
    by_cases hed : e = d
    · subst hed
      rw [if_pos rfl, grp_same s e ins hds, List.length_append, List.map_append]; exact ho
    · rw [if_neg hed, grp_other s e ins (fun h1 => hed (h1.symm.trans hds))]
      exact owns_at (h.vals e he) (keptv e he hed)
  · intro e f he hf hef k
    by_cases hed : e = d
    · by_cases hfd : f = d
      · exact absurd (hed.trans hfd.symm) hef
      · rw [if_pos hed, if_neg hfd]
        intro h1 h2
        rcases hv2 with h3 | ⟨g, h3, h4⟩
        · rw [h3] at h1
          exact h.apart d f hd hf (fun h5 => hfd h5.symm) k h1 h2
        · have := oldv f hf k h2
          rw [h3] at h1
          have := Option.some.inj h1
          omega
    · by_cases hfd : f = d
      · rw [if_neg hed, if_pos hfd]
        intro h1 h2
        rcases hv2 with h3 | ⟨g, h3, h4⟩
        · rw [h3] at h2
          exact h.apart e d he hd hed k h1 h2
        · have := oldv e he k h1
          rw [h3] at h2
          have := Option.some.inj h2
          omega
      · rw [if_neg hed, if_neg hfd]
        exact h.apart e f he hf hef k
  · intro e he k
    by_cases hed : e = d
    · rw [if_pos hed]; exact hne k
    · rw [if_neg hed]
      intro h1 h2
      rcases hi2 with h3 | ⟨g, h3, h4⟩
      · rw [h3] at h2; exact h.away e he k h1 h2
      · have := oldv e he k h1
        rw [h3] at h2
        have := Option.some.inj h2
        omega
  · intro e he
    by_cases hed : e = d
    · subst hed
      rw [has_put_same tidy.isMap (dKey_lit e he), grp_same s e ins hds]
      simp
    · rw [has_put_other (inj e he hed), grp_other s e ins (fun h1 => hed (h1.symm.trans hds))]
      exact h.has e he
  · rw [size_put tidy, cnt_snoc, h.has d hd, h.size, hds]
  · intro e he k
    by_cases hed : e = d
    · rw [if_pos hed]; exact fun h1 => .inr (.inr h1)
    · rw [if_neg hed]; exact fun h1 => .inl (h.myv e he k h1)
  · rintro k (h1 | h1 | h1)
    · exact Nat.lt_of_lt_of_le (h.old k h1) hz
    · exact hlt k h1
    · exact hlv k h1
  · rintro k (h1 | h1 | h1)
    · exact .inl h1
    · rcases hi2 with h3 | ⟨g, h3, h4⟩
      · rw [h3] at h1; exact .inl (h.myi k h1)
      · rw [h3] at h1; have := Option.some.inj h1; right; omega
    · rcases hv2 with h3 | ⟨g, h3, h4⟩
      · rw [h3] at h1; exact .inl (h.myv d hd k h1)
      · rw [h3] at h1; have := Option.some.inj h1; right; omega
end Go.Proofs.YtdlgkmaknoaodaaDoor

namespace Go.Proofs.YtdlgkmaknoaodaaDoor
open Go Go.RowKit

theorem wpOp_list {P : Program} {ops : Array Oper} {Q : Exit → Act → World → Prop} {i : Nat} {o : Oper} {K : Act → World → Prop} {a : Act} {w : World} (hi : ops[i]? = some o) (h : wpList P ops (Exit.then K Q) [o] a w) : wpOp P ops Q i K a w := by
  unfold wpOp
  simp only [hi]
  exact h
/-- Whichever of those that may come up comes up, walked as a list of one. -/
theorem wpAnyH_one {P : Program} {md : Region.Mode} {ops : Array Oper} {Q : Exit → Act → World → Prop} {S : World → Prop} {fuel : Nat} {listed : Array Bool} {a : Act} {w : World} (i : Nat) (o : Oper) (hr : Region.ready md ops listed = [i]) (hi : ops[i]? = some o)
    (h : wpList P ops (Exit.then (fun a' w' => S w' ∧ wpAnyH P md ops Q S fuel (listed.setIfInBounds i true) a' w') Q) [o] a w) : wpAnyH P md ops Q S (fuel + 1) listed a w :=
  wpAnyH_all hr (by simp) fun j hj => by
    obtain rfl : j = i := by simpa using hj
    exact wpOp_list hi h
theorem wpAnyH_two {P : Program} {md : Region.Mode} {ops : Array Oper} {Q : Exit → Act → World → Prop} {S : World → Prop} {fuel : Nat} {listed : Array Bool} {a : Act} {w : World} (i k : Nat) (o u : Oper) (hr : Region.ready md ops listed = [i, k]) (hi : ops[i]? = some o) (hk : ops[k]? = some u)
    (h : wpList P ops (Exit.then (fun a' w' => S w' ∧ wpAnyH P md ops Q S fuel (listed.setIfInBounds i true) a' w') Q) [o] a w)
    (h' : wpList P ops (Exit.then (fun a' w' => S w' ∧ wpAnyH P md ops Q S fuel (listed.setIfInBounds k true) a' w') Q) [u] a w) : wpAnyH P md ops Q S (fuel + 1) listed a w :=
  wpAnyH_all hr (by simp) fun j hj => by
    have hj' : j = i ∨ j = k := by simpa using hj
    rcases hj' with rfl | rfl
    · exact wpOp_list hi h
    · exact wpOp_list hk h'
theorem wpAnyH_three {P : Program} {md : Region.Mode} {ops : Array Oper} {Q : Exit → Act → World → Prop} {S : World → Prop} {fuel : Nat} {listed : Array Bool} {a : Act} {w : World} (i k l : Nat) (o u v : Oper) (hr : Region.ready md ops listed = [i, k, l]) (hi : ops[i]? = some o) (hk : ops[k]? = some u) (hl : ops[l]? = some v)
    (h : wpList P ops (Exit.then (fun a' w' => S w' ∧ wpAnyH P md ops Q S fuel (listed.setIfInBounds i true) a' w') Q) [o] a w)
    (h' : wpList P ops (Exit.then (fun a' w' => S w' ∧ wpAnyH P md ops Q S fuel (listed.setIfInBounds k true) a' w') Q) [u] a w)
    (h'' : wpList P ops (Exit.then (fun a' w' => S w' ∧ wpAnyH P md ops Q S fuel (listed.setIfInBounds l true) a' w') Q) [v] a w) : wpAnyH P md ops Q S (fuel + 1) listed a w :=
  wpAnyH_all hr (by simp) fun j hj => by
    have hj' : j = i ∨ j = k ∨ j = l := by simpa using hj
    rcases hj' with rfl | rfl | rfl
    · exact wpOp_list hi h
    · exact wpOp_list hk h'
    · exact wpOp_list hl h''
/-- A load of a part of a row, of a row, of a cell yields wherever they lie. -/
theorem yields_mid {P : Program} {ops : Array Oper} {S : World → Prop} {o : Oper} {a : Act} (hw : Region.wanted o (yielded ops a.tmps) = true) (ty : TypeId) (x : Operand) (ho : o.op = .load ty x)
    (b off : Nat) (hx : a.eval x = .pointer (some ⟨b, off, none⟩)) (cs : List Value) (d : TypeDesc) (hc : ∀ w, S w → w.rangeAt b off cs)
    (hu : P.underlying ty = some d) (hd : d.isRow = true) (hi : (P.info? ty).map (·.size) = some cs.length) : YieldsIf P ops S o (.agg cs.toArray) a := by
  refine .inl ⟨hw, fun w hS => ?_⟩
  have hl := run_loadVar_mid w b off ty cs d (hc w hS) hu hd hi
  unfold execOp
  simp only [ho, hx, Instr.loadAt, Instr.sureAddr, Sem.run_bind, Sem.run_pure, Result.andThen_ok, hl]
theorem yields_row {P : Program} {ops : Array Oper} {S : World → Prop} {o : Oper} {a : Act} (hw : Region.wanted o (yielded ops a.tmps) = true) (ty : TypeId) (x : Operand) (ho : o.op = .load ty x)
    (g : Nat) (hx : a.eval x = .pointer (some ⟨g, 0, none⟩)) (t : TypeId) (cs : Array Value) (fr : Nat × Nat) (d : TypeDesc) (hg : ∀ w, S w → w.heap[g]? = some (.cells cs t fr))
    (hu : P.underlying ty = some d) (hd : (match d with | .struct _ | .array _ _ => true | _ => false) = true) (hi : (P.info? ty).map (·.size) = some cs.size) : YieldsIf P ops S o (.agg cs) a := by
  refine .inl ⟨hw, fun w hS => ?_⟩
  have hl := run_loadVar_row w g t ty cs fr d (hg w hS) hu hd hi
  unfold execOp
  simp only [ho, hx, Instr.loadAt, Instr.sureAddr, Sem.run_bind, Sem.run_pure, Result.andThen_ok, hl]
theorem yields_build {P : Program} {ops : Array Oper} {S : World → Prop} {o : Oper} {a : Act} (hw : Region.wanted o (yielded ops a.tmps) = true) (t : TypeId) (parts : Array (Nat × Operand)) (ho : o.op = .build t parts) (cells : Array Value)
    (hb : P.built t (parts.toList.map fun (i, x) => (i, a.eval x)) = some cells) : YieldsIf P ops S o (.agg cells) a := by
  rw [← Array.toList_map] at hb
  refine .inl ⟨hw, fun w hS => ?_⟩
  unfold execOp
  simp only [ho, Sem.run_bind, run_build w t _ cells hb, Result.andThen_ok]
  rfl
end Go.Proofs.YtdlgkmaknoaodaaDoor

namespace Go.Proofs.YtdlgkmaknoaodaaDoor
open Go Go.RowKit
set_option linter.unusedSimpArgs false
set_option linter.unusedVariables false

theorem fill_one {s : Nat} (hs : 0 < s) (cs cells : Array Value) (hc : cs.size = s) (hz : cells.size = s) : Instr.fill (fun i => some (i * s, s)) cells [(0, .agg cs)] = some cs := by
  obtain ⟨r, hr, hsz, hk⟩ := Great.fill_dense hs [.agg cs] 0 cells (by simp [Value.cells, hc]) (by simp [hz])
  have e : r = cs := by
    apply Array.ext_getElem?
    intro k
    rw [hk k]
    by_cases h : k < s
    · rw [if_pos (by simp; omega)]
      simp [Nat.div_eq_of_lt h, Nat.mod_eq_of_lt h, Value.cells]
    · rw [if_neg (by simp; omega), Array.getElem?_eq_none (by omega), Array.getElem?_eq_none (by omega)]
  rw [e] at hr
  exact hr
theorem rowInfo {P : Program} {e : TypeId} {s b : Nat} (hi : (P.info? e).map (fun i => (i.size, i.bytes, i.zero.map (·.cells.size))) = some (s, b, some s)) : ∃ i z, P.info? e = some i ∧ i.zero = some z ∧ i.size = s ∧ i.bytes = b ∧ z.cells.size = s := by
  cases hq : P.info? e with
  | none => rw [hq] at hi; cases hi
  | some i =>
    rw [hq] at hi
    simp only [Option.map_some, Option.some.injEq, Prod.mk.injEq] at hi
    obtain ⟨h1, h2, h3⟩ := hi
    cases hz : i.zero with
    | none => rw [hz] at h3; cases h3
    | some z =>
      rw [hz] at h3
      simp only [Option.map_some, Option.some.injEq] at h3
      exact ⟨i, z, rfl, hz, h1, h2, h3⟩
theorem wpList_build_one {P : Program} {ops : Array Oper} {rest : List Oper} {o : Oper} {a : Act} {w : World} {Q : Exit → Act → World → Prop} (hg : o.guard = none) (t e : TypeId) (x : Operand) (ho : o.op = .buildSlice t 1 #[(0, x)]) (s b : Nat) (hs : 0 < s) (hs2 : s ≤ 1000)
    (cs : Array Value) (hx : a.eval x = .agg cs) (hc : cs.size = s) (hu : P.underlying t = some (.slice e)) (hi : (P.info? e).map (fun i => (i.size, i.bytes, i.zero.map (·.cells.size))) = some (s, b, some s))
    (h : wpList P ops Q rest (a.put o.dst (.slice (some ⟨w.heap.size, 0, none⟩) 1 1)) (w.alloc (.cells cs e))) : wpList P ops Q (o :: rest) a w := by
  obtain ⟨i, z, hie, hz, h1, h2, h3⟩ := rowInfo hi
  refine wpList_buildSlice hg t e 1 #[(0, x)] ho cs i z hu hie hz (by rw [h1]; omega) (by rw [h1]; omega) ?_ h
  rw [h1, show (#[(0, x)].map fun (p : Nat × Operand) => (p.1, a.eval p.2)).toList = [(0, .agg cs)] by simp [hx]]
  exact fill_one hs cs _ hc (by simp)
theorem wpList_append_one {P : Program} {ops : Array Oper} {rest : List Oper} {o : Oper} {a : Act} {Q : Exit → Act → World → Prop} (hgd : o.guard = none) (t e : TypeId) (sx x : Operand)
    (ho : o.op = .call { callee := .builtin .append, args := #[sx, x], argTypes := #[t, t] }) (s b : Nat) (hs : 0 < s) (hb2 : b ≤ 100000) (hu : P.underlying t = some (.slice e)) (hi : (P.info? e).map (fun i => (i.size, i.bytes, i.zero.map (·.cells.size))) = some (s, b, some s))
    (B : Nat) (v : Value) (n : Nat) (xs : List Value) (hv : a.eval sx = v) (wr : World) (hown : wr.ownsRow B e s v n xs) (hB : B ≤ wr.heap.size) (cs : Array Value) (hc : cs.size = s) (h1 : cs.all (·.oneCell') = true)
    (hx : a.eval x = .slice (some ⟨wr.heap.size, 0, none⟩) 1 1) (hlen : n + 1 ≤ 1048576)
    (h : ∀ v' w', w'.ownsRow B e s v' (n + 1) (xs ++ cs.toList) → Below B wr w' → (∀ k, k < wr.heap.size → some k ≠ v.ownBlock → w'.heap[k]? = wr.heap[k]?) → wpList P ops Q rest (a.put o.dst v') w') : wpList P ops Q (o :: rest) a (wr.alloc (.cells cs e)) := by
  obtain ⟨i, z, hie, hz, e1, e2, e3⟩ := rowInfo hi
  refine wpList_append_own _ hgd sx x t ho B e i z s b hu hie hz e1 e2 e3 hs v n xs hv (hown.alloc _) ⟨wr.heap.size, 0, none⟩ 1 1 cs.toList hx (by simp [hc]) ?_ ?_ (by unfold maxLen; omega) ?_ (by rw [World.size_alloc]; omega) ?_
  · intro j u hj
    rw [show (⟨wr.heap.size, 0, none⟩ : Addr).add j = ⟨wr.heap.size, j, none⟩ by unfold Addr.add; split <;> simp_all, cell_of_row _ _ _ _ _ _ (al1 wr (.cells cs e))]
    rw [← Array.getElem?_toList]; exact hj
  · intro u hu'
    exact Array.all_eq_true_iff_forall_mem.1 h1 u (Array.mem_toList_iff.1 hu')
  · exact Nat.le_trans (Nat.mul_le_mul hlen hb2) (by decide)
  · intro v' w' ho' hg _
    have kept : ∀ k, k < wr.heap.size → some k ≠ v.ownBlock → w'.heap[k]? = wr.heap[k]? := fun k hk hn => (hg.block k (by rw [World.size_alloc]; omega) hn).trans (Below.heap_alloc wr _ k hk)
    refine h v' w' ho' ?_ kept
    have hA := (Below.refl B wr).alloc hB (.cells cs e)
    refine hA.trans ⟨hg.os, hg.tape, hg.output, hg.size, fun k hk => hg.block k (by rw [World.size_alloc]; omega) ?_⟩
    intro hc'
    have := (hown.lt k hc'.symm).1
    omega
end Go.Proofs.YtdlgkmaknoaodaaDoor

namespace Go.Proofs.YtdlgkmaknoaodaaDoor
open Go Go.RowKit Go.Maps
open Go.ChangeMaps
set_option linter.unusedSimpArgs false
set_option linter.unusedVariables false

theorem wpQuiet_lookup {P : Program} {ops : Array Oper} {C : World → Prop} {Q : Act → Prop} {a : Act} {o : Oper} {rest : List Oper} (hw : Region.wanted o (yielded ops a.tmps) = true) (t : TypeId) (x k : Operand) (ho : o.op = .lookup t x k false)
    (m kv v : Value) (hx : a.eval x = m) (hk : a.eval k = kv) (hr : ∀ w, C w → (Instr.lookup t m kv false).run P w = .ok v w) (h : wpQuiet P ops C Q rest (a.put o.dst v)) : wpQuiet P ops C Q (o :: rest) a := by
  show if _ then _ else _
  rw [if_pos hw]
  refine ⟨v, fun w hC => ?_, h⟩
  unfold Oper.quietAt execOp
  simp only [ho, hx, hk, Sem.run_bind, hr w hC, Result.andThen_ok]
  exact ⟨rfl, rfl⟩
theorem wpList_mapEntry {P : Program} {ops : Array Oper} {rest : List Oper} {o : Oper} {a : Act} {Q : Exit → Act → World → Prop} (w : World) (hg : o.guard = none) (t : TypeId) (x k : Operand) (ho : o.op = .mapEntry t x k)
    (m kv v : Value) (w' : World) (hx : a.eval x = m) (hk : a.eval k = kv) (hr : (Instr.mapEntry t m kv).run P w = .ok v w') (h : wpList P ops Q rest (a.put o.dst v) w') : wpList P ops Q (o :: rest) a w := by
  refine wpList_plain hg fun K hK => ?_
  unfold Oper.wp
  simp [execOp, ho, hx, hk, hr, Result.andThen]
  exact hK _ _ h
theorem wpList_entryStore {P : Program} {ops : Array Oper} {rest : List Oper} {o : Oper} {a : Act} {Q : Exit → Act → World → Prop} (w : World) (hg : o.guard = none) (t : TypeId) (x s y : Operand) (ho : o.op = .entryStore t x s y)
    (m sv v : Value) (w' : World) (hx : a.eval x = m) (hs : a.eval s = sv) (hy : a.eval y = v) (hr : (Instr.entryStore t m sv v).run P w = .ok () w') (h : wpList P ops Q rest (a.put o.dst undef) w') : wpList P ops Q (o :: rest) a w := by
  refine wpList_plain hg fun K hK => ?_
  unfold Oper.wp
  simp [execOp, ho, hx, hs, hy, hr, Result.andThen]
  exact hK _ _ h
set_option maxRecDepth 100000 in
theorem lawDl : WideMaps.KeyLaw Tryd.prog 23 := deep_law_laid kLaidOut (m := 2) (by omega) rowOfD (by kernel_rfl) wideD
theorem zeroL (u : World) : (zeroValue 54).run Tryd.prog u = .ok (.slice none 0 0) u := by kernel_rfl
theorem strRow : (Tryd.prog.info? 9).map (fun i => (i.size, i.bytes, i.zero.map (·.cells.size))) = some (1, 16, some 1) := by kernel_rfl
theorem noteSt (s t : List UInt8) : ((str s).toList == (str t).toList) = decide (s = t) := by
  rw [ByteArray.toList_eq, ByteArray.toList_eq, str_toList, str_toList, Bool.eq_iff_iff]; simp
theorem RBut.same {T : Nat → Prop} {w w' w'' : World} (h : RBut T w w') (h' : RBut T w' w'') : RBut T w w'' := h.trans h' (fun k hk => .inl hk)
theorem slice_of {base n sz : Nat} {w : World} {t : TypeId} {v : Value} {xs : List Value} (h : w.ownsRow base t sz v (n + 1) xs) : ∃ g c, v = .slice (some ⟨g, 0, none⟩) (n + 1) c := by
  rcases h.2 with ⟨_, h0⟩ | ⟨g, cap, cur, h1, _⟩
  · omega
  · exact ⟨g, cap, h1⟩
theorem RBut.wider {T T' : Nat → Prop} {w w' : World} (h : RBut T w w') (hT : ∀ k, T k → T' k) : RBut T' w w' := ⟨h.os, h.tape, h.output, h.size, fun k hk hn => h.block k hk (fun h1 => hn (hT k h1))⟩
theorem RBut.of_grown {T : Nat → Prop} {w w' : World} {row : Option Nat} (h : w.grownBy w' row) (hT : ∀ k, row = some k → T k) : RBut T w w' := ⟨h.os, h.tape, h.output, h.size, fun k hk hn => h.block k hk (fun e => hn (hT k e.symm))⟩
theorem RBut.of_setBlock {T : Nat → Prop} {w : World} {m : Nat} {es : Array MapEntry} {c : Nat} (h : w.heap[m]? = some (.map es c)) (o : Obj) (hT : T m) : RBut T w (setBlock w m o) := ⟨rfl, rfl, rfl, by simp [setBlock], fun k _ hn => heap_setBlock_other h o (fun e => hn (by rw [e]; exact hT))⟩
theorem RBut.of_setCell {T : Nat → Prop} (w : World) (b j : Nat) (v : Value) (hT : T b) : RBut T w (w.setCell ⟨b, j, none⟩ v) := ⟨rfl, rfl, rfl, by simp, fun k _ hn => heap_setCell_other _ _ _ _ (fun e => hn (by rw [e]; exact hT))⟩
set_option maxHeartbeats 2000000 in
set_option maxRecDepth 100000 in
theorem rnote_calls (b : Nat) (S : Nat → Prop) (ins : List (List UInt8)) (s d : List UInt8) (hd : d.length = 32) (hds : pSum [s] = d) (hs : s.length ≤ maxLen) (hn : ins.length < 1099511627776) (w : World) (hL : RLogAt w b S ins) :
    Calls Tryd.prog 38 #[.pointer (some ⟨b, 0, none⟩), .agg (bc d), .string (str s)] w fun e w' => e = .returned (.tuple #[]) ∧ RStep b S (rnoted s ins) w w' := by
  obtain ⟨base, m, iv, D, val, h⟩ := hL
  have hi0 := digInfo d hd
  have q0 := al1 w (.cells (bc d) 23)
  have b0 := (Below.refl w.heap.size w).alloc (Nat.le_refl _) (.cells (bc d) 23)
  obtain ⟨X, hX⟩ : ∃ X, w.alloc (.cells (bc d) 23) = X := ⟨_, rfl⟩
  rw [hX] at q0 b0
  have HX := hide hX
  have hRX := h.below b0
  obtain ⟨V, hV⟩ : ∃ V, val d = V := ⟨_, rfl⟩
  obtain ⟨G, hG⟩ : ∃ G, grp d ins = G := ⟨_, rfl⟩
  obtain ⟨n, hnn⟩ : ∃ n, G.length = n := ⟨_, rfl⟩
  have hown := hRX.vals d hd
  rw [hV, hG, hnn] at hown
  have hnle : n ≤ ins.length := by rw [← hnn, ← hG]; exact grp_le d ins
  obtain ⟨p, c, hVe, hcell⟩ : ∃ p c, V = .slice p n c ∧ (0 < n → ∃ g o, p = some ⟨g, o, none⟩ ∧ g < X.heap.size ∧ ∀ j, j < n → X.cell? ⟨g, o + j, none⟩ = some (.string (str (G.getD j [])))) := by
    rcases hown.2 with ⟨h1, h2⟩ | ⟨g, cap, cur, h1, _, hg, hc, _, hs, ht⟩
    · exact ⟨none, 0, by rw [h1, h2], fun h3 => by omega⟩
    · refine ⟨_, cap, h1, fun _ => ⟨g, 0, rfl, (Array.getElem?_eq_some_iff.1 hg).1, fun j hj => ?_⟩⟩
      rw [Nat.zero_add, cell_of_row _ _ _ _ _ _ hg]
      have h4 : (G.map fun s => Value.string (str s))[j]? = some (.string (str (G.getD j []))) := by
        rw [List.getElem?_map, List.getD_eq_getElem?_getD, List.getElem?_eq_getElem (by omega)]; rfl
      rw [← ht, List.getElem?_take] at h4
      split at h4
      · simpa using h4
      · cases h4
  have hlook : Hid (∀ W : World, W.heap[m]? = X.heap[m]? → (Instr.lookup 53 (.map (some m)) (.agg (bc d)) false).run Tryd.prog W = .ok (.slice p n c) W) := hide fun W hW => by
    obtain ⟨v0, ps, h1, h2⟩ := (map_at hRX.map hW).lookup lawD Tryd.underlying53 (zeroL W) RV_nil (dKey_is d hd)
    rw [h1, RV_inj h2 (hRX.look d hd) rfl, hV, hVe]
  have HMB : Hid (∀ dd os, (Sort.grow (redrawn X dd) os).heap[m]? = X.heap[m]?) := hide fun dd os => (below_regrown X dd os).block m hRX.map.lt
  have x1 := hRX.obj
  have c0 : ∀ dd os, (Sort.grow (redrawn X dd) os).cell? ⟨b, 1, none⟩ = some (.map (some m)) := fun dd os => by
    rw [cell_of_row _ _ _ _ _ _ (Below.at (below_regrown X dd os) (Array.getElem?_eq_some_iff.1 x1).1 x1)]; rfl
  have r0 : Hid (∀ w', (∃ p : Regrown, w' = Sort.grow (redrawn X p.d) p.os) → w'.heap[w.heap.size]? = some (.cells (bc d) 23 (0, 0))) := fun w' ⟨p, hp⟩ => by rw [hp]; exact Below.at (below_regrown X p.d p.os) (Array.getElem?_eq_some_iff.1 q0).1 q0
  have hq : ∀ i, ((str (G.getD i [])).toList == (str s).toList) = decide (G.getD i [] = s) := fun i => noteSt _ _
  have Hq := hide hq
  have HG := hide hG
  have HN := hide hnn
  have Hcell := hide hcell
  have HVe := hide hVe
  have HR := hide hRX
  have H0 := hide h
  have HB0 := hide b0
  have Q0 := hide q0
  have HDS := hide hds
  have Hs := hide hs
  have Hd := hide hd
  have Hown := hide hown
  have HV := hide hV
  clear hX hds hs hd h hRX x1 q0 b0 hown hcell hVe hG hnn hV hq
  go_enter Tryd.func38, Tryd.ntmps38
  go_wp2_with (rw [unhide HX])
  refine wp_region_below mixed (by kernel_rfl) ?_
  quiet_step (fail)
  quiet_step (fail)
  quiet_step (fail)
  quiet_step (fail)
  refine wpQuiet_load_row rfl 23 (.tmp 4) rfl w.heap.size rfl 23 _ (0, 0) _ (unhide r0) Tryd.underlying23 rfl hi0 ?_
  refine wpQuiet_lookup rfl 53 (.tmp 13) (.tmp 14) rfl (.map (some m)) (.agg (bc d)) (.slice p n c) rfl rfl (fun W ⟨p, hp⟩ => by rw [hp]; exact unhide hlook _ (unhide HMB p.d p.os)) ?_
  quiet_step (fail)
  quiet_step (fail)
  refine wpQuiet_nil ?_
  intro w2 b2
  have hR2 := hide ((unhide HR).below b2)
  have b02 := (unhide HB0).trans (b2.mono (unhide HB0).size)
  have Q2 := hide (Below.at b2 (Array.getElem?_eq_some_iff.1 (unhide Q0)).1 (unhide Q0))
  have HB2 := hide b2
  have HB02 := hide b02
  have hcl2 : Hid (0 < n → ∃ g o, p = some ⟨g, o, none⟩ ∧ ∀ j, j < n → w2.cell? ⟨g, o + j, none⟩ = some (.string (str (G.getD j [])))) := hide fun h3 => by
    obtain ⟨g, o, h4, h5, h6⟩ := unhide Hcell h3
    exact ⟨g, o, h4, fun j hj => by rw [(unhide HB2).cell (p := ⟨g, o + j, none⟩) h5]; exact h6 j hj⟩
  clear c0 r0 hlook HMB b2 b02 Hcell
  go_wp2
  go_loopw [17] (fun i wr => ∃ k : Nat, k ≤ n ∧ i = .int .i64 (k : Int) ∧ wr = w2 ∧ Hid (∀ j, j < k → G.getD j [] ≠ s)) (fun i _ => n - (intOf i).toNat)
  case atStart => exact ⟨0, by omega, rfl, rfl, hide fun j hj => absurd hj (Nat.not_lt_zero _)⟩
  case round =>
    obtain ⟨k, hk, rfl, hwr, hno⟩ := hrel
    have hwr2 := hwr.symm
    subst hwr2
    clear hwr
    by_cases hlt : k < n
    · have hd1 : decide (k < n) = true := by simpa using hlt
      have bk : (k : Int) < (n : Int) := by omega
      obtain ⟨g, o, rfl, hc⟩ := unhide hcl2 (by omega)
      have c := hc k hlt
      have hqk := unhide Hq k
      have hmem : Hid (G.getD k [] ∈ G) := hide (by rw [List.getD_eq_getElem?_getD, List.getElem?_eq_getElem (by rw [unhide HN]; exact hlt)]; exact List.getElem_mem _)
      have hrec : Hid (G.getD k [] ≠ s → ∀ j, j < k + 1 → G.getD j [] ≠ s) := hide fun h1 j hj => by
        by_cases e : j = k
        · rw [e]; exact h1
        · exact unhide hno j (by omega)
      generalize G.getD k [] = E at *
      clear hc
      by_cases hE : E = s
      · have hq1 : decide (E = s) = true := by simpa using hE
        rw [hq1] at hqk
        have HE := hide hE
        clear hE hq1
        go_wp2
        refine bodyPost_ret (results_none rfl _ _ _) rfl ⟨rfl, ?_⟩
        have hin : s ∈ ins := by
          rw [← mem_grp, unhide HDS, unhide HG, ← unhide HE]; exact unhide hmem
        rw [rnoted, if_pos hin]
        exact RStep.same ⟨_, _, _, _, _, unhide H0⟩ (unhide HB02)
      · have hq1 : decide (E = s) = false := by simpa using hE
        rw [hq1] at hqk
        have HE := hide hE
        clear hE hq1
        go_wp2
        go_roundw
        case rel => exact ⟨k + 1, by omega, by go_num, by first | rfl | trivial, hide (unhide hrec (unhide HE))⟩
        case measure => simp [intOf]; omega
    · have hd1 : decide (k < n) = false := by simpa using hlt
      have hnin : Hid (s ∉ ins) := hide fun hin => by
        rw [← mem_grp, unhide HDS, unhide HG] at hin
        obtain ⟨j, hj, e⟩ := List.getElem_of_mem hin
        refine unhide hno j (by have := unhide HN; omega) ?_
        rw [List.getD_eq_getElem?_getD, List.getElem?_eq_getElem hj]; exact e
      have HLT := hide hlt
      clear hno hd1 hlt
      go_upto_region 7 with fail
      -- what the region finds
      have F := unhide hR2
      have F1 := F.obj
      have FQ := unhide Q2
      have hbm := F.ne
      have hmN : m ≠ w.heap.size := by have := (unhide H0).old m (unhide H0).mym; omega
      have hbN : b ≠ w.heap.size := by have := (unhide H0).old b (unhide H0).myb; omega
      obtain ⟨SS, hSS⟩ : ∃ SS : World → Prop, SS = fun W => W.heap[b]? = some (.cells #[iv, .map (some m)] 56 (0, 0)) ∧ W.heap[w.heap.size]? = some (.cells (bc d) 23 (0, 0)) := ⟨_, rfl⟩
      have HSS : Hid (∀ W : World, SS W ↔ (W.heap[b]? = some (.cells #[iv, .map (some m)] 56 (0, 0)) ∧ W.heap[w.heap.size]? = some (.cells (bc d) 23 (0, 0)))) := hide fun W => by rw [hSS]
      clear hSS
      have hr0 : Hid (∀ W, SS W → W.heap[w.heap.size]? = some (.cells (bc d) 23 (0, 0))) := hide fun W h => ((unhide HSS W).1 h).2
      have hr1 : Hid (∀ W, SS W → W.cell? ⟨b, 1, none⟩ = some (.map (some m))) := hide fun W h => by rw [cell_of_row _ _ _ _ _ _ ((unhide HSS W).1 h).1]; rfl
      have hS0 : SS ({ w2 with drawn := w2.drawn + 1 } : World) := (unhide HSS _).2 ⟨F1, FQ⟩
      have HF := hide F
      have HMN := hide hmN
      have HBN := hide hbN
      have HBM := hide hbm
      clear F F1 FQ hbm hmN hbN
      refine wp_region_held (S := SS) mixed ?_
      refine wpAnyH_take (i := 0) (v := .pointer (some ⟨b, 0, none⟩)) rfl (by kernel_rfl) (by kernel_rfl) (by kernel_rfl) (fun _ _ _ h => h) (.inl ⟨rfl, fun _ _ => rfl⟩) hS0 ?_
      refine wpAnyH_take (i := 1) (v := .pointer (some ⟨b, 0, none⟩)) rfl (by kernel_rfl) (by kernel_rfl) (by kernel_rfl) (fun _ _ _ h => h) (.inl ⟨rfl, fun _ _ => rfl⟩) hS0 ?_
      go_simp
      refine wpAnyH_take (i := 2) (v := .pointer (some ⟨b, 1, none⟩)) rfl (by kernel_rfl) (by kernel_rfl) (by kernel_rfl) (fun _ _ _ h => h) (.inl ⟨rfl, fun _ _ => rfl⟩) hS0 ?_
      refine wpAnyH_take (i := 3) (v := .map (some m)) rfl (by kernel_rfl) (by kernel_rfl) (by kernel_rfl) (fun _ _ _ h => h) (.inl ⟨rfl, fun W hW => by have c2 := unhide hr1 W hW; go_simp⟩) hS0 ?_
      go_simp
      refine wpAnyH_take (i := 4) (v := .agg (bc d)) rfl (by kernel_rfl) (by kernel_rfl) (by kernel_rfl) (fun _ _ _ h => h) (yields_row rfl 23 (.tmp 4) rfl w.heap.size rfl 23 (bc d) (0, 0) _ (unhide hr0) Tryd.underlying23 rfl hi0) hS0 ?_
      refine wpAnyH_take (i := 5) (v := .string (str s)) rfl (by kernel_rfl) (by kernel_rfl) (by kernel_rfl) (fun _ _ _ h => h) (.inl ⟨rfl, fun _ _ => rfl⟩) hS0 ?_
      go_simp
      obtain ⟨ti, tz, hie, htz, e1, e2, e3⟩ := rowInfo strRow
      obtain ⟨T, hT⟩ : ∃ T : Nat → Prop, T = fun k => k = b ∨ k = m ∨ iv.ownBlock = some k ∨ V.ownBlock = some k := ⟨_, rfl⟩
      have hTb : T b := by rw [hT]; exact .inl rfl
      have hTm : T m := by rw [hT]; exact .inr (.inl rfl)
      have hTi : ∀ k, iv.ownBlock = some k → T k := by rw [hT]; exact fun k h => .inr (.inr (.inl h))
      have hTv : ∀ k, V.ownBlock = some k → T k := by rw [hT]; exact fun k h => .inr (.inr (.inr h))
      have HT := hide hT
      obtain ⟨U, hU⟩ : ∃ U : Nat → Prop, U = fun k => k = m ∨ V.ownBlock = some k := ⟨_, rfl⟩
      have hUm : U m := by rw [hU]; exact .inl rfl
      have hUv : ∀ k, V.ownBlock = some k → U k := by rw [hU]; exact fun k h => .inr h
      have hUT : Hid (∀ k, U k → T k) := hide (by rw [hU]; exact fun k h => h.elim (fun h => by rw [h]; exact hTm) (hTv k))
      have hUi : Hid (∀ k, iv.ownBlock = some k → ¬ U k) := hide (by rw [hU]; exact fun k hk h => h.elim (fun h => by rw [h] at hk; have := (unhide HF).lom; have := ((unhide HF).inp.lt m hk).1; omega) (fun h => (unhide HF).away d (unhide Hd) k (by rw [unhide HV]; exact h) hk))
      have hF := unhide HF
      have hvals : w2.ownsRow base 9 1 V n (G.map fun s => .string (str s)) := by have := hF.vals d (unhide Hd); rw [unhide HV, unhide HG, unhide HN] at this; exact this
      have hinp := hF.inp
      have hmlt := hF.map.lt
      have hib : ∀ k, iv.ownBlock = some k → k ≠ b ∧ k ≠ m ∧ k < w2.heap.size := fun k e => ⟨by have := (hinp.lt k e).1; have := hF.lob; omega, by have := (hinp.lt k e).1; have := hF.lom; omega, (hinp.lt k e).2⟩
      have hvb : ∀ k, V.ownBlock = some k → k ≠ b ∧ k ≠ m ∧ k < w2.heap.size := fun k e => ⟨by have := (hvals.lt k e).1; have := hF.lob; omega, by have := (hvals.lt k e).1; have := hF.lom; omega, (hvals.lt k e).2⟩
      have hvi : ∀ k, V.ownBlock = some k → iv.ownBlock ≠ some k := fun k e => hF.away d (unhide Hd) k (by rw [unhide HV]; exact e)
      have hblt : b < w2.heap.size := (Array.getElem?_eq_some_iff.1 hF.obj).1
      have hNlt : w.heap.size < w2.heap.size := (Array.getElem?_eq_some_iff.1 (unhide Q2)).1
      have hNT : ¬ T w.heap.size := by
        rw [hT]
        rintro (h1 | h1 | h1 | h1)
        · exact unhide HBN h1.symm
        · exact unhide HMN h1.symm
        · have := (unhide H0).old _ ((unhide H0).myi _ h1); omega
        · have := (unhide H0).old _ ((unhide H0).myv d (unhide Hd) _ (by rw [unhide HV]; exact h1)); omega
      have hbs := hF.bs
      have hkey := dKey_is d (unhide Hd)
      have HVB := hide hvb
      have HIB := hide hib
      have HVI := hide hvi
      have HVV := hide hvals
      have HINP := hide hinp
      have HTI := hide hTi
      have HTV := hide hUv
      have HNT := hide (fun h => hNT (unhide hUT _ h))
      have HTM := hide hUm
      have HTB := hide hTb
      clear hF hT hU hUm hUv hTb hTm hTi hTv hib hvb hvi hNT hinp hvals
      refine wpAnyH_one 6 _ (by kernel_rfl) rfl ?_
      · go_wp2
        obtain ⟨Y, hY⟩ : ∃ Y, (w2.alloc (.cells #[.string (str s)] 9)).drew = Y := ⟨_, rfl⟩
        have yb0 := (Below.refl w2.heap.size w2).alloc (Nat.le_refl _) (.cells #[.string (str s)] 9)
        have yb : Below w2.heap.size w2 Y := by rw [← hY]; exact ⟨yb0.os, yb0.tape, yb0.output, yb0.size, yb0.block⟩
        have yq : Y.heap[w2.heap.size]? = some (.cells #[.string (str s)] 9 (0, 0)) := by rw [← hY]; exact al1 w2 _
        have ym : Y.heap[m]? = w2.heap[m]? := yb.block m hmlt
        have y1 : Y.heap[b]? = some (.cells #[iv, .map (some m)] 56 (0, 0)) := (yb.block b hblt).trans (unhide HF).obj
        have y2 : Y.heap[w.heap.size]? = some (.cells (bc d) 23 (0, 0)) := (yb.block _ hNlt).trans (unhide Q2)
        have yz : w2.heap.size < Y.heap.size := (Array.getElem?_eq_some_iff.1 yq).1
        rw [hY]
        refine ⟨(unhide HSS _).2 ⟨y1, y2⟩, ?_⟩
        clear hY
        have hmY : Hid (Y.ownsMap Tryd.prog 23 RV m ins.length D) := hide (map_at (unhide HF).map ym)
        obtain ⟨es0, cl0, hm0⟩ : ∃ es c, Y.heap[m]? = some (.map es c) := by obtain ⟨es, c, h1, _⟩ := unhide hmY; exact ⟨es, c, h1⟩
        obtain ⟨v0, st, es1, c1, hr, hv0, hst⟩ := map_entry (unhide hmY) lawDl Tryd.underlying53 zeroL RV_nil (by unfold maxLen; omega) hkey
        have hv0V : V = v0 := by
          obtain ⟨ps, hv0⟩ := hv0
          rw [RV_inj hv0 ((unhide HF).look d (unhide Hd)) rfl, unhide HV]
        subst hv0V
        clear hv0
        have HST := hide hst
        clear hst
        refine wpAnyH_one 7 _ (by kernel_rfl) rfl ?_
        go_wp2_with (refine wpList_mapEntry _ rfl 53 (.tmp 28) (.tmp 29) rfl (.map (some m)) (.agg (bc d)) _ _ rfl rfl hr ?_)
        have zm : (setBlock Y m (.map es1 c1)).heap[m]? = some (.map es1 c1) := heap_setBlock_same hm0 _
        have zb : (setBlock Y m (.map es1 c1)).heap[b]? = some (.cells #[iv, .map (some m)] 56 (0, 0)) := (heap_setBlock_other hm0 _ (unhide HBM)).trans y1
        have zt : RBut U w2 (setBlock Y m (.map es1 c1)) := (RBut.of_below yb).same (RBut.of_setBlock hm0 _ (unhide HTM))
        have zq : (setBlock Y m (.map es1 c1)).heap[w2.heap.size]? = some (.cells #[.string (str s)] 9 (0, 0)) := (heap_setBlock_other hm0 _ (by omega)).trans yq
        have zV : ∀ k, k < w2.heap.size → k ≠ m → (setBlock Y m (.map es1 c1)).heap[k]? = w2.heap[k]? := fun k hk hne => (heap_setBlock_other hm0 _ hne).trans (yb.block k hk)
        have zz : w2.heap.size < (setBlock Y m (.map es1 c1)).heap.size := (Array.getElem?_eq_some_iff.1 zq).1
        have hS2 := (unhide HSS _).2 ⟨zb, ((zV _ hNlt (fun e => unhide HMN e.symm)).trans (unhide Q2))⟩
        refine ⟨hS2, ?_⟩
        obtain ⟨Z, hZ⟩ : ∃ x, setBlock Y m (.map es1 c1) = x := ⟨_, rfl⟩
        rw [hZ] at zm zb zt zq zV zz hS2
        rw [hZ]
        clear hZ hr hm0 hmY yb yq ym y1 y2 yz
        refine wpAnyH_take (i := 8) (v := V) rfl (by kernel_rfl) (by kernel_rfl) (by kernel_rfl) (fun _ _ _ h => h) (.inl ⟨rfl, fun _ _ => rfl⟩) hS2 ?_
        refine wpAnyH_take (i := 10) (v := st) rfl (by kernel_rfl) (by kernel_rfl) (by kernel_rfl) (fun _ _ _ h => h) (.inl ⟨rfl, fun _ _ => rfl⟩) hS2 ?_
        go_simp
        have hvZ : Z.ownsRow base 9 1 V n (G.map fun s => .string (str s)) := owns_at (unhide HVV) (fun k e => (zV k (unhide HVB k e).2.2 (unhide HVB k e).2.1))
        have hnews : ∀ j u, [Value.string (str s)][j]? = some u → Z.cell? ((⟨w2.heap.size, 0, none⟩ : Addr).add j) = some u := by
          intro j u hj
          have hj0 : j = 0 := by
            have := (List.getElem?_eq_some_iff.1 hj).1; simp at this; omega
          subst hj0
          simp at hj
          subst hj
          rw [show (⟨w2.heap.size, 0, none⟩ : Addr).add 0 = ⟨w2.heap.size, 0, none⟩ by simp [Addr.add], cell_of_row _ _ _ _ _ _ zq]; rfl
        refine wpAnyH_one 9 _ (by kernel_rfl) rfl ?_
        refine wpList_append_own_at _ rfl (.tmp 30) (.tmp 32) 54 rfl base 9 ti tz 1 16 Tryd.underlying54 hie htz e1 e2 e3 (by decide) V n _ rfl hvZ ⟨w2.heap.size, 0, none⟩ 1 1 [.string (str s)] rfl rfl hnews (by simp [Value.oneCell']) (by unfold maxLen; omega) (by omega) (by have := zz; omega) ?_
        intro v' W3 ho3 hg3 hn3 ha3
        go_wp2
        have h3m : W3.heap[m]? = some (.map es1 c1) := (hg3.block m (by have := zz; omega) (fun e => ((unhide HVB) m e.symm).2.1 rfl)).trans zm
        have t3 : RBut U w2 W3 := zt.same (RBut.of_grown hg3 (unhide HTV))
        have h3b : W3.heap[b]? = some (.cells #[iv, .map (some m)] 56 (0, 0)) := (hg3.block b (by have := zz; omega) (fun e => ((unhide HVB) b e.symm).1 rfl)).trans zb
        have h3N : W3.heap[w.heap.size]? = some (.cells (bc d) 23 (0, 0)) := (t3.block _ hNlt (unhide HNT)).trans (unhide Q2)
        refine ⟨(unhide HSS _).2 ⟨h3b, h3N⟩, ?_⟩
        obtain ⟨dv, hdv⟩ := owns_RV ho3
        obtain ⟨es', c', hr4, hmap4⟩ := unhide HST W3 v' dv hdv h3m
        refine wpAnyH_one 11 _ (by kernel_rfl) rfl ?_
        go_wp2_with (refine wpList_entryStore _ rfl 53 (.tmp 28) (.tmp 35) (.tmp 34) rfl (.map (some m)) st v' _ rfl rfl rfl hr4 ?_)
        have h4m : (setBlock W3 m (.map es' c')).heap[m]? = some (.map es' c') := heap_setBlock_same h3m _
        have t4 : RBut U w2 (setBlock W3 m (.map es' c')) := t3.same (RBut.of_setBlock h3m _ (unhide HTM))
        have h4b : (setBlock W3 m (.map es' c')).heap[b]? = some (.cells #[iv, .map (some m)] 56 (0, 0)) := (heap_setBlock_other h3m _ (unhide HBM)).trans h3b
        have hvm : ∀ k, v'.ownBlock = some k → k ≠ m := fun k e => by have := (ho3.lt k e).1; have := (unhide HF).lom; omega
        have ho4 : (setBlock W3 m (.map es' c')).ownsRow base 9 1 v' (n + 1) ((G.map fun s => .string (str s)) ++ [.string (str s)]) := owns_at ho3 (fun k e => heap_setBlock_other h3m _ (hvm k e))
        have hvl : v'.ownBlock = V.ownBlock ∨ ∃ g, v'.ownBlock = some g ∧ w2.heap.size ≤ g := ha3.imp_right (fun e => ⟨_, e, by have := zz; omega⟩)
        refine ⟨(unhide HSS _).2 ⟨h4b, (t4.block _ hNlt (unhide HNT)).trans (unhide Q2)⟩, ?_⟩
        obtain ⟨W4, hW4⟩ : ∃ x, setBlock W3 m (.map es' c') = x := ⟨_, rfl⟩
        rw [hW4] at h4m t4 h4b ho4
        rw [hW4]
        have HM4 := hide hmap4
        have HO4 := hide ho4
        have HVL := hide hvl
        have HT4 := hide t4
        have HDV := hide hdv
        have hi4 : W4.ownsRow base 9 1 iv ins.length (ins.map fun s => .string (str s)) := owns_at (unhide HINP) (fun k e => ((unhide HT4).block k (unhide HIB k e).2.2 (unhide hUi k e)))
        have c4 : W4.cell? ⟨b, 0, none⟩ = some iv := by rw [cell_of_row _ _ _ _ _ _ h4b]; rfl
        have z4 : w2.heap.size ≤ W4.heap.size := t4.size
        have H4M := hide h4m
        have H4B := hide h4b
        clear hr4 hmap4 ho4 hvl t4 hdv h3m t3 h3b h3N ho3 hg3 hn3 ha3 hvm h4m h4b hW4 zt zm zb zq zV hvZ hnews
        refine wpAnyH_done (by kernel_rfl) ?_ _
        go_wp2_with (at_builtin; refine wpList_append_own_at _ rfl (.tmp 40) (.tmp 42) 54 rfl base 9 ti tz 1 16 Tryd.underlying54 hie htz e1 e2 e3 (by decide) iv ins.length _ rfl (hi4.alloc _) ⟨W4.heap.size, 0, none⟩ 1 1 [.string (str s)] rfl rfl (cell_one_new _ _ _) (by simp [Value.oneCell']) (by unfold maxLen; omega) (by omega) (by simp; omega) ?_; intro iv' W5 ho5 hg5 hn5 ha5; obtain ⟨g5, cc5, hiv5⟩ : ∃ g c, iv' = .slice (some ⟨g, 0, none⟩) (ins.length + 1) c := (slice_of ho5); subst hiv5; have h5b := (hg5.block b (by simp; omega) (fun e => ((unhide HIB) b e.symm).1 rfl)).trans ((heap_alloc_old W4 _ (by omega)).trans (unhide H4B)); have f5 := frozen_of_row W5 b 0 _ _ h5b; have c5 : W5.cell? ⟨b, 0, none⟩ = some iv := by (rw [cell_of_row _ _ _ _ _ _ h5b]; rfl))
        refine bodyPost_end (results_none rfl _ _ _) rfl ⟨rfl, ?_⟩
        obtain ⟨iv', hivE⟩ : ∃ x, Value.slice (some ⟨g5, 0, none⟩) (ins.length + 1) cc5 = x := ⟨_, rfl⟩
        rw [hivE] at ho5 hn5 ha5 ⊢
        have kb5 : ∀ k, k ≠ b → (W5.setCell ⟨b, 0, none⟩ iv').heap[k]? = W5.heap[k]? := fun k hk => heap_setCell_other _ _ _ _ hk
        have t5 : RBut T w2 (W5.setCell ⟨b, 0, none⟩ iv') := ((((unhide HT4).wider (unhide hUT)).same (RBut.of_below ((Below.refl _ W4).alloc (Nat.le_refl _) _))).same (RBut.of_grown hg5 (unhide HTI))).same (RBut.of_setCell _ _ _ _ (unhide HTB))
        have n5 : ∀ k, k < W4.heap.size → iv.ownBlock ≠ some k → W5.heap[k]? = W4.heap[k]? := fun k hk hne => (hg5.block k (by simp; omega) (fun e => hne e.symm)).trans (heap_alloc_old W4 _ hk)
        have i5b : ∀ k, iv'.ownBlock = some k → k ≠ b := fun k e => by have := (ho5.lt k e).1; have := (unhide HF).lob; omega
        have v4b : ∀ k, v'.ownBlock = some k → k ≠ b ∧ k < W4.heap.size := fun k e => ⟨by have := ((unhide HO4).lt k e).1; have := (unhide HF).lob; omega, ((unhide HO4).lt k e).2⟩
        have vni : ∀ k, v'.ownBlock = some k → iv.ownBlock ≠ some k := fun k e h1 => by
          rcases unhide HVL with h2 | ⟨g, h2, h3⟩
          · exact unhide HVI k (h2.symm.trans e) h1
          · have := (unhide HIB k h1).2.2
            rw [h2] at e
            have := Option.some.inj e
            omega
        have him : iv.ownBlock ≠ some m := fun e => (unhide HIB m e).2.1 rfl
        obtain ⟨S', hR', hS'⟩ := (unhide HF).add (w' := W5.setCell ⟨b, 0, none⟩ iv') s d (unhide Hd) (unhide HDS) iv' v' dv t5.size (heap_setCell_same _ _ _ _ _ _ h5b)
          (owns_at ho5 (fun k e => kb5 k (i5b k e))) (ha5.imp_right (fun e => ⟨_, e, by simp; omega⟩))
          (unhide HM4 _ (by rw [kb5 m (Ne.symm (unhide HBM)), n5 m (by omega) him]; exact unhide H4M)) (unhide HDV)
          (by rw [unhide HG, unhide HN]; exact owns_at (unhide HO4) (fun k e => by rw [kb5 k (v4b k e).1, n5 k (v4b k e).2 (vni k e)]))
          (by rw [unhide HV]; exact unhide HVL)
          (fun k e h1 => by
            rcases ha5 with h2 | h2
            · exact vni k e (h2.symm.trans h1)
            · rw [h2] at h1
              have h9 := Option.some.inj h1
              have h8 := (v4b k e).2
              rw [World.size_alloc] at h9
              omega)
          (fun k hk h1 h2 h3 h4 => t5.block k hk (by rw [unhide HT]; rw [unhide HV] at h4; exact fun h => h.elim h1 (fun h => h.elim h2 (fun h => h.elim h3 h4))))
        rw [rnoted, if_neg (unhide hnin)]
        have hb02 := unhide HB02
        refine ⟨S', ⟨_, _, _, _, _, hR'⟩, ⟨t5.os.trans hb02.os, t5.tape.trans hb02.tape, t5.output.trans hb02.output, Nat.le_trans hb02.size t5.size, fun k hk hn => ?_⟩, fun k hk => (hS' k hk).imp_right (Nat.le_trans hb02.size)⟩
        have h0 := unhide H0
        exact (t5.block k (Nat.lt_of_lt_of_le hk hb02.size) (by rw [unhide HT]; exact fun h => h.elim (fun h => hn (by rw [h]; exact h0.myb)) (fun h => h.elim (fun h => hn (by rw [h]; exact h0.mym)) (fun h => h.elim (fun h => hn (h0.myi k h)) (fun h => hn (h0.myv d (unhide Hd) k (by rw [unhide HV]; exact h))))))).trans (hb02.block k hk)
end Go.Proofs.YtdlgkmaknoaodaaDoor

namespace Go.Proofs.YtdlgkmaknoaodaaDoor
open Go.RowKit
set_option linter.unusedSimpArgs false
set_option linter.unusedVariables false

theorem byte256 (q : Nat) : (q : Int) % 256 = ((UInt8.ofNat q).toNat : Int) := by
  rw [UInt8.toNat_ofNat']
  show (q : Int) % 256 = ((q % 256 : Nat) : Int)
  omega
set_option maxHeartbeats 400000 in
set_option maxRecDepth 100000 in
theorem rbig_calls (n k : Nat) (hn : n < 18446744073709551616) (hk : k ≤ 8) (hk1 : 1 ≤ k) (w : World) :
    Calls Tryd.prog 30 #[.int .u64 (n : Int), .int .i64 (k : Int)] w fun e w' => e = .returned (.string (str (pBig n k))) ∧ Below w.heap.size w w' := by
  have hlen := pBig_length n k
  have hat := pBig_at n k
  generalize hP : pBig n k = P at *
  have HP := hide hP
  have Hlen := hide hlen
  have Hat := hide hat
  clear hP hlen hat
  go_enter Tryd.func30, Tryd.ntmps30
  go_wp2
  go_loopw [0, 6] (fun a i wr => ∃ j m : Nat, j ≤ k ∧ Hid (m = n / 2 ^ (8 * (k - j))) ∧ a = .int .u64 (m : Int) ∧ i = .int .i64 ((j : Int) - 1) ∧ Below w.heap.size w wr ∧ wr.heap[w.heap.size]? = some (.cells (bc (List.replicate j 0 ++ P.drop j ++ List.replicate (8 - k) 0)) 75 (0, 0))) (fun _ i _ => (intOf i + 1).toNat)
  case atStart =>
    refine ⟨k, n, Nat.le_refl _, ?_, rfl, rfl, (Below.refl _ _).alloc (Nat.le_refl _) _, ?_⟩
    · show n = _; simp
    · rw [al1, List.drop_of_length_le (by rw [unhide Hlen]; omega), List.append_nil, List.replicate_append_replicate, show k + (8 - k) = 8 by omega]; rfl
  case round =>
    obtain ⟨j, m, hj, hm, rfl, rfl, hb, q⟩ := hrel
    cases j with
    | succ j =>
      rw [show ((j + 1 : Nat) : Int) - 1 = (j : Int) by omega]
      have hd : decide ((0 : Int) ≤ (j : Int)) = true := by simp
      have hsp : List.replicate (j + 1) (0 : UInt8) ++ P.drop (j + 1) ++ List.replicate (8 - k) 0 = List.replicate j 0 ++ 0 :: (P.drop (j + 1) ++ List.replicate (8 - k) 0) := by
        rw [List.replicate_succ']; simp
      rw [hsp] at q
      have hl : (List.replicate j 0 ++ 0 :: (P.drop (j + 1) ++ List.replicate (8 - k) 0) : List UInt8).length = 8 := by simp [unhide Hlen]; omega
      have c : wr.cell? ⟨w.heap.size, j, none⟩ = some (.int .u8 (((List.replicate j 0 ++ 0 :: (P.drop (j + 1) ++ List.replicate (8 - k) 0) : List UInt8).getD j 0).toNat : Int)) := by
        rw [cell_of_row _ _ _ _ _ _ q]; exact bc_at _ _ (by omega)
      have f : wr.frozen? ⟨w.heap.size, j, none⟩ = false := frozen_of_row _ _ _ _ _ q
      have b1 : (j : Int) < 8 := by omega
      generalize hv : (List.replicate j 0 ++ 0 :: (P.drop (j + 1) ++ List.replicate (8 - k) 0) : List UInt8).getD j 0 = v at c
      obtain ⟨m2, hm2, em2⟩ : ∃ m2 : Nat, Hid (m / 256 = m2) ∧ (m : Int) / 256 = (m2 : Int) := ⟨_, rfl, by omega⟩
      have hmn : m ≤ n := by rw [unhide hm]; exact Nat.div_le_self _ _
      have wu := wu64 (m2 : Int) (by omega) (by have := unhide hm2; omega)
      have Q := hide q
      clear hl hv q hsp hmn
      go_wp2
      go_roundw
      case rel =>
        refine ⟨j, m2, by omega, ?_, rfl, by go_num, hb.setCell (by simp) _, ?_⟩
        · show m2 = _
          rw [← unhide hm2, unhide hm, Nat.div_div_eq_div_mul, show (256 : Nat) = 2 ^ 8 from rfl, ← Nat.pow_add, show 8 * (k - (j + 1)) + 8 = 8 * (k - j) by omega]
        · rw [byte256, heap_setCell_same _ _ _ _ _ _ (unhide Q), bc_set _ _ _ _ _ (by simp)]
          have e2 := unhide Hat j (by omega)
          rw [show k - 1 - j = k - (j + 1) by omega, ← unhide hm] at e2
          rw [drop_cons' P j 0 (by rw [unhide Hlen]; omega), e2]; simp
      case measure => simp [intOf]
    | zero =>
      have hd : decide ((0 : Int) ≤ (((0 : Nat) : Int) - 1)) = false := by decide
      have q' : wr.heap[w.heap.size]? = some (.cells (bc (P ++ List.replicate (8 - k) 0)) 75 (0, 0)) := by
        rw [q]; simp
      have hcv := run_convert_bytes_back (P := Tryd.prog) wr 69 9 5 ⟨w.heap.size, 0, none⟩ 8 P Tryd.underlying69 Tryd.underlying5 Tryd.underlying9 (fun j hj => by
        have hadd : (⟨w.heap.size, 0, none⟩ : Addr).add j = ⟨w.heap.size, j, none⟩ := by unfold Addr.add; split <;> simp_all
        rw [hadd, cell_of_row _ _ _ _ _ _ q', bc_at _ _ (by simp; omega)]; simp [hj, List.getElem?_append_left])
      rw [unhide Hlen] at hcv
      have b1 : (k : Int) ≤ 8 := by omega
      clear q q'
      go_wp2
      go_ret
      exact ⟨by rfl, hb⟩
theorem rtext3_calls (l : List UInt8) (hl : l.length < 4294967296) (w : World) :
    Calls Tryd.prog 45 #[.string (str l)] w fun e w' => e = .returned (.string (str (pText4 l))) ∧ Below w.heap.size w w' := by
  have hc := rbig_calls l.length 4 (by omega) (by decide) (by decide) w
  unfold pText4
  have hlen := pBig_length l.length 4
  generalize pBig l.length 4 = B at *
  have Hc := hide hc
  have ea := append_str B l
  have n1 : ¬ 9223372036854775807 < B.length + l.length := by omega
  clear hc hlen
  go_enter Tryd.func45, Tryd.ntmps45
  go_wp2_with fail
  refine (unhide Hc).mono ?_
  rintro e w' ⟨rfl, hb⟩
  go_wp2
  go_ret
  exact ⟨rfl, hb⟩
set_option maxRecDepth 100000 in
theorem rbytes_calls (d : List UInt8) (hd : d.length = 32) (w : World) :
    Calls Tryd.prog 29 #[.agg (bc d)] w fun e w' => e = .returned (.string (str d)) ∧ Below w.heap.size w w' := by
  have q := al1 w (.cells (bc d) 23)
  have hcv := run_convert_bytes_back (P := Tryd.prog) (w.alloc (.cells (bc d) 23)) 69 9 5 ⟨w.heap.size, 0, none⟩ 32 d Tryd.underlying69 Tryd.underlying5 Tryd.underlying9 (fun j hj => by
    have hadd : (⟨w.heap.size, 0, none⟩ : Addr).add j = ⟨w.heap.size, j, none⟩ := by unfold Addr.add; split <;> simp_all
    rw [hadd, cell_of_row _ _ _ _ _ _ q, bc_at _ _ hj]; simp [hj])
  rw [hd] at hcv
  clear q
  go_enter Tryd.func29, Tryd.ntmps29
  go_wp2
  go_ret
  exact ⟨rfl, (Below.refl _ _).alloc (Nat.le_refl _) _⟩
end Go.Proofs.YtdlgkmaknoaodaaDoor

namespace Go.Proofs.YtdlgkmaknoaodaaDoor
open Go.RowKit
set_option linter.unusedSimpArgs false
set_option linter.unusedVariables false

set_option maxHeartbeats 400000 in
theorem rturn_calls (x : BitVec 32) (n : Int) (h0 : 0 < n) (h : n < 32) (w : World) :
    Calls Tryd.prog 58 #[.int .u32 x.toNat, .int .u64 n] w fun e w' => e = .returned (.int .u32 (rotr x n.toNat).toNat) ∧ w' = w := by
  obtain ⟨m, rfl⟩ := Int.eq_ofNat_of_zero_le (Int.le_of_lt h0)
  have ht : (32 : Int) - (m : Int) = ((32 - m : Nat) : Int) := by omega
  have hw := wu64 ((32 - m : Nat) : Int) (by omega) (by omega)
  go_enter Tryd.func58, Tryd.ntmps58
  go_wp2
  go_ret
  refine ⟨?_, rfl⟩
  show Ending.returned (.int .u32 (bits BinOp.or IntKind.u32 (↑x.toNat / 2 ^ m) (↑x.toNat * 2 ^ (32 - m) % 4294967296))) = _
  rw [b_shl, b_shr, b_or, BitVec.or_comm]
  simp only [rotr, rotl, Int.toNat_natCast]
  rw [show 32 - (32 - m) = m by omega]

def rkInts : List Int := kWords.map fun x => (x.toNat : Int)
theorem rkInts_cells : (rkInts.map (Value.int .u32)).toArray = wc kWords := by simp [rkInts, wc, List.map_map, Function.comp_def]
set_option maxHeartbeats 1000000 in
set_option maxRecDepth 100000 in
theorem constants_calls (w : World) :
    Calls Tryd.prog 57 #[] w fun e w' => e = .returned (.agg (wc kWords)) ∧ Below w.heap.size w w' := by
  have hi : (Tryd.prog.info? 104).map (·.size) = some (wc kWords).size := by rw [wc_size]; kernel_rfl
  have hb : Below w.heap.size w (w.alloc (.cells (wc (List.replicate 64 0)) 104)) := (Below.refl _ _).alloc (Nat.le_refl _) _
  have hq : (w.alloc (.cells (wc (List.replicate 64 0)) 104)).heap[w.heap.size]? = some (.cells (wc (List.replicate 64 0)) 104 (0, 0)) := al1 _ _
  go_enter Tryd.func57, Tryd.ntmps57
  go_wp2_with (first
    | (refine wpList_buildFlatArr rfl 104 60 64 _ rfl .u32 rkInts Tryd.underlying104 u8w (by kernel_rfl) (by kernel_rfl) ?_; rw [rkInts_cells])
    | (refine wpList_store_row rfl 104 (.tmp 0) (.tmp 1) rfl w.heap.size _ rfl rfl 104 _ hq hi (by rw [wc_size, wc_size]; rfl) (wc_oneCell _) ?_))
  exact bodyPost_ret (results_cell_row rfl _ _ w.heap.size _ _ _ _ rfl (setRow_heap _ _ _ _ _ _ hq) Tryd.underlying104 rfl hi) rfl ⟨rfl, below_setRow hb (Nat.le_refl _) _⟩

set_option maxHeartbeats 400000 in
set_option maxRecDepth 100000 in
theorem first_calls (w : World) :
    Calls Tryd.prog 47 #[] w fun e w' => e = .returned (.agg (wc hWords)) ∧ Below w.heap.size w w' := by
  go_enter Tryd.func47, Tryd.ntmps47
  go_wp2
  exact bodyPost_ret (results_cell_row rfl _ _ w.heap.size _ _ _ _ rfl (al1 _ _) Tryd.underlying85 rfl (by kernel_rfl)) rfl ⟨rfl, (Below.refl _ _).alloc (Nat.le_refl _) _⟩
end Go.Proofs.YtdlgkmaknoaodaaDoor
