/-
  THE DOCUMENT's OWN DIGEST OF TWO DIGESTS, where there is no log.
-/
/-
  EQUALITY OF ARRAYS AND STRUCTS BY VALUE, OF A VALUE WITH ITSELF. Over whatever program.
-/
/-
  A LOG IN MEMORY: keys of its two maps; what is kept beside it.
-/
/-
  THE DOCUMENT's LOG IN MEMORY (layer 4): a list of inputs, and by each digest the list of its inputs.
-/
/-
  THE DOCUMENT's LOG: what it is behind one input more.
-/
/-
  A REGION THAT DRAWS ITS ORDER, STEP BY STEP: each operation that may come up is walked as a list of one. Over whatever program.
-/
/-
  A SLICE OF ROWS THAT THE CALL OWNS: a slice literal of one row; a row appended. Over whatever program.
-/
/-
  WHAT Note DOES TO THE DOCUMENT's LOG.
-/
/-
  THE DOCUMENT's LOG: New, Of, Clash.
-/
/-
  WHAT A CALL THAT NOTES LEAVES; a loop that notes.
-/
import Derived.Test.YtonmccmeljeopaaDoorJ2
import Derived.DeepKeys
import Derived.Laws.StructEq
import Derived.WalkKit
import Derived.Maps.OwnSet
import Derived.DeepKeys4
import Derived.Test.YtonmccmeljeopaaDoorJ1
import Derived.WideKeyEntry
import Derived.Maps.AppendAt
import Derived.OrdersHeld
import Derived.Laws.Rows
import Derived.Deep.MidRow
import Derived.Laws.Tables
import Derived.Test.YtonmccmeljeopaaDoorJ0
import Derived.Great.BuildSlice
import Derived.Laws.AppendOwn
import Derived.Laws.OwnMore
import Derived.WalkSpells
import Derived.Carry
import Derived.Deep.DeepCutAuto
import Derived.BigQuiet
namespace Go.Proofs.YtonmccmeljeopaaDoor
open Go.RowKit
set_option linter.unusedSimpArgs false
set_option linter.unusedVariables false

theorem strsAt_rpair (w : World) (l0 l1 : List UInt8) (t : TypeId) : StrsAt (w.alloc (.cells #[.string (str l0), .string (str l1)] t)) (some ⟨w.heap.size, 0, none⟩) [l0, l1] := by
  refine .inr ⟨w.heap.size, 0, rfl, by simp, fun j hj => ?_⟩
  match j, hj with
  | 0, _ => go_simp
  | 1, _ => go_simp
  | j + 2, hj => simp at hj; omega
set_option maxHeartbeats 2000000 in
set_option maxRecDepth 100000 in
theorem rtwo_calls (dom : Nat) (hdom : dom < 256) (a b : List UInt8) (ha : a.length = 32) (hb : b.length = 32) (w : World) :
    Calls Tryd.prog 37 #[.pointer none, .int .u8 (dom : Int), .agg (bc a), .agg (bc b)] w fun e w' => e = .returned (.agg (bc (pOf dom [a, b]))) ∧ Below w.heap.size w w' := by
  have co := fun g w hs => rofNil_calls dom hdom [a, b] (by simp; omega) (by simp) (some ⟨g, 0, none⟩) 2 w hs
  have hia := digInfo a ha
  have hib := digInfo b hb
  have hi1 := digInfo (pOf dom [a, b]) (pOf_length dom [a, b])
  have hz1 := zeroSize (pOf dom [a, b]) (pOf_length dom [a, b])
  have ho1 := bc_oneCell (pOf dom [a, b])
  have ca := fun w => rbytes_calls a ha w
  have cb := fun w => rbytes_calls b hb w
  generalize pOf dom [a, b] = D at *
  have A3 := hide (al3 w (.cells (bc a) 23) (.cells (bc b) 23) (.cells (bc (List.replicate 32 0)) 23))
  have B3 := hide (bel3 w (.cells (bc a) 23) (.cells (bc b) 23) (.cells (bc (List.replicate 32 0)) 23))
  have S3 : Hid ((((w.alloc (.cells (bc a) 23)).alloc (.cells (bc b) 23)).alloc (.cells (bc (List.replicate 32 0)) 23)).heap.size = w.heap.size + 1 + 1 + 1) := hide (by simp)
  generalize hX : ((w.alloc (.cells (bc a) 23)).alloc (.cells (bc b) 23)).alloc (.cells (bc (List.replicate 32 0)) 23) = X at *
  have HX := hide hX
  have CO := hide co
  have kA : Hid (∀ dd os, Calls Tryd.prog 33 #[.agg (bc a)] (Sort.grow (redrawn X.drew dd) os) fun e w'' => e = .returned (.string (str a)) ∧ ∃ p : Regrown, w'' = Sort.grow (redrawn X.drew p.d) p.os) := fun dd os => Calls.regrown_of (ca _)
  have kB : Hid (∀ dd os, Calls Tryd.prog 33 #[.agg (bc b)] (Sort.grow (redrawn X.drew dd) os) fun e w'' => e = .returned (.string (str b)) ∧ ∃ p : Regrown, w'' = Sort.grow (redrawn X.drew p.d) p.os) := fun dd os => Calls.regrown_of (cb _)
  have dX : Below X.heap.size X X.drew := ⟨rfl, rfl, rfl, Nat.le_refl _, fun _ _ => rfl⟩
  have s3 := unhide S3
  have R0 : Hid (∀ w', (∃ p : Regrown, w' = Sort.grow (redrawn X.drew p.d) p.os) → w'.heap[w.heap.size]? = some (.cells (bc a) 23 (0, 0))) := fun w' ⟨p, hp⟩ => by
    rw [hp]; exact Below.at (below_regrown X.drew p.d p.os) (by show _ < X.heap.size; omega) (unhide A3).1
  have R1 : Hid (∀ w', (∃ p : Regrown, w' = Sort.grow (redrawn X.drew p.d) p.os) → w'.heap[w.heap.size + 1]? = some (.cells (bc b) 23 (0, 0))) := fun w' ⟨p, hp⟩ => by
    rw [hp]; exact Below.at (below_regrown X.drew p.d p.os) (by show _ < X.heap.size; omega) (unhide A3).2.1
  clear co ca cb s3 dX hX
  go_enter Tryd.func37, Tryd.ntmps37
  go_wp2_with fail
  change Code.wp _ _ _ _ (((w.alloc (.cells (bc a) 23)).alloc (.cells (bc b) 23)).alloc (.cells (bc (List.replicate 32 0)) 23))
  rw [unhide HX]
  refine wp_region_any mixed ?_
  change wpAny _ _ _ _ _ _ _ X.drew
  refine wpAny_take (i := 0) rfl (by kernel_rfl) (by kernel_rfl) (by kernel_rfl) (fun _ _ _ h => h) (.inl ⟨rfl, fun _ => rfl⟩) ?_
  refine wpAny_take (i := 1) rfl (by kernel_rfl) (by kernel_rfl) (by kernel_rfl) (fun _ _ _ h => h) (.inl ⟨rfl, fun _ => rfl⟩) ?_
  refine wpAny_below_head 2 6 (by kernel_rfl) ?_
  simp only [List.take_succ_cons, List.take_zero, List.drop_succ_cons, List.drop_zero]
  refine wpQuiet_load_row rfl 23 (.tmp 6) rfl w.heap.size rfl 23 _ (0, 0) _ (unhide R0) Tryd.underlying23 rfl hia ?_
  quiet_step (exact unhide kA _ _)
  refine wpQuiet_load_row rfl 23 (.tmp 7) rfl (w.heap.size + 1) rfl 23 _ (0, 0) _ (unhide R1) Tryd.underlying23 rfl hib ?_
  quiet_step (exact unhide kB _ _)
  refine wpQuiet_nil ?_
  intro w2 hb2
  have hb2' : Below X.heap.size X w2 := ⟨hb2.os, hb2.tape, hb2.output, hb2.size, hb2.block⟩
  have s3 := unhide S3
  have q2 := Below.at hb2' (by omega) (unhide A3).2.2
  have hbw : Below w.heap.size w w2 := (unhide B3).trans (hb2'.mono (by omega))
  have z2 : w.heap.size + 1 + 1 < w2.heap.size := by have := hb2'.size; omega
  have HB := hide hbw
  have Q2 := hide q2
  have Z2 := hide z2
  clear hb2 hb2' s3 q2 hbw z2
  refine wpAny_rest 6 (by kernel_rfl) ?_
  simp only [List.drop_succ_cons, List.drop_zero]
  go_wp2_with fail
  refine (unhide CO _ _ (strsAt_rpair w2 a b _)).mono ?_
  rintro e w3 ⟨rfl, b3⟩
  have q3 := Below.at b3 (by have := unhide Z2; simp; omega) ((Below.heap_alloc w2 (.cells #[.string (str a), .string (str b)] 9) _ (unhide Z2)).trans (unhide Q2))
  have hb3 : Below w.heap.size w w3 := ((unhide HB).alloc (by have := unhide Z2; omega) _).trans (b3.mono (by have := unhide Z2; simp; omega))
  have Q3 := hide q3
  have HB3 := hide hb3
  clear b3 q3 hb3
  go_wp2_with (refine wpList_store_row rfl 23 (.tmp 8) (.tmp 16) rfl (w.heap.size + 1 + 1) _ rfl rfl 23 _ (unhide Q3) hi1 hz1 ho1 ?_)
  exact bodyPost_ret (results_cell_row rfl _ _ (w.heap.size + 1 + 1) _ _ _ _ rfl (setRow_heap _ _ _ _ _ _ (unhide Q3)) Tryd.underlying23 rfl hi1) rfl ⟨rfl, below_setRow (unhide HB3) (by omega) _⟩
end Go.Proofs.YtonmccmeljeopaaDoor

namespace Go.Proofs.YtonmccmeljeopaaDoor
open Go Go.RowKit

theorem mapM_some {α β : Type} (f : α → Option β) (g : α → β) (l : List α) (h : ∀ x ∈ l, f x = some (g x)) : l.mapM f = some (l.map g) := by
  induction l with
  | nil => rfl
  | cons x l ih =>
    rw [List.mapM_cons, h x (by simp), ih (fun y hy => h y (by simp [hy]))]; rfl

/-- The data of an array of integers. -/
theorem keyLits_ints {P : Program} (t e : TypeId) (n : Nat) (k : IntKind) (hu : P.underlying t = some (.array n e)) (he : P.underlying e = some (.int k)) (hce : P.cellsOf e = 1) (hct : P.cellsOf t = n)
    (zs : List Int) (hl : zs.length = n) (hw : ∀ z ∈ zs, (Lit.int k z).wf = true) : ∃ la, P.keyLits 2 t (zs.map (Value.int k)) = some la := by
  unfold Program.keyLits
  simp only [hu]
  rw [if_pos (by simp [hl, hct])]
  rw [mapM_some _ (fun i => [Lit.int k (zs.getD i 0)]) _ (fun i hi => ?_)]
  · exact ⟨_, rfl⟩
  · have hi' : i < zs.length := by rw [hl]; exact List.mem_range.1 hi
    rw [hce, Nat.mul_one, List.drop_eq_getElem_cons (by simpa using hi')]
    unfold Program.keyLits
    simp only [he]
    have hz : (Lit.int k zs[i]).wf = true := hw _ (List.getElem_mem _)
    simp [hz, hi']

theorem equalIn_refl {P : Program} (t : TypeId) (m D : Nat) (hm : m ≤ 10000) (hk : P.keyTypeAt m t = true) (cs : Array Value) (hf : (Value.agg cs).formed P t = true) (la : List Lit) (hla : P.keyLits D t cs.toList = some la) (w : World) :
    (Op.equalIn 10000 t (.agg cs) (.agg cs)).run P w = .ok true w := by
  obtain ⟨r, hr, hiff⟩ := run_equalIn_deep (P := P) (10000 - m) m t hk w D D (.agg cs) (.agg cs) la la hf hf hla hla
  rw [show 10000 - m + m = 10000 by omega] at hr
  obtain rfl : r = true := hiff.2 rfl
  exact hr
/-- A value of such a type equals itself. -/
theorem eql_refl {P : Program} (t : TypeId) (m D : Nat) (hm : m ≤ 10000) (hk : P.keyTypeAt m t = true) (cs : Array Value) (hf : (Value.agg cs).formed P t = true) (la : List Lit) (hla : P.keyLits D t cs.toList = some la) (w : World) :
    (binOp .eql t (.agg cs) (.agg cs)).run P w = .ok (.bool true) w := by
  obtain ⟨r, hr, hiff⟩ := run_equalIn_deep (P := P) (10000 - m) m t hk w D D (.agg cs) (.agg cs) la la hf hf hla hla
  rw [show 10000 - m + m = 10000 by omega] at hr
  obtain rfl : r = true := hiff.2 rfl
  rw [run_eql_struct, hr]; rfl

end Go.Proofs.YtonmccmeljeopaaDoor

namespace Go.Proofs.YtonmccmeljeopaaDoor
open Go Go.RowKit Go.Maps
set_option linter.unusedSimpArgs false
set_option linter.unusedVariables false

theorem kLaidOut : laidOutB Tryd.prog = true := by kernel_rfl
theorem rowOfD : (23 : TypeId) < Tryd.prog.types.size := of_decide_eq_true (by kernel_rfl)
theorem wideD : (match Tryd.prog.underlying 23 with | some (.array _ _) | some (.struct _) => true | _ => false) = true := by rw [Tryd.underlying23]
set_option maxRecDepth 100000 in
theorem lawD : Keyed Tryd.prog 23 := Keyed.of_law (deep_law_laid kLaidOut (m := 2) (by omega) rowOfD (by kernel_rfl) wideD)
theorem lawS : Keyed Tryd.prog 9 := string_keyed Tryd.underlying9
/-- What the elements of a log's maps are is never asked. -/
def R0 (_ : Value) : Option (DataW Unit × List MemPlace) := some (.agg [], [])
abbrev u0 : DataW Unit := .agg []
theorem keyOf_text (s : List UInt8) (hs : s.length ≤ maxLen) : keyOf Tryd.prog 9 (.string (str s)) = some (.string s) := by
  have := WideMaps.keyOf_string_mk (P := Tryd.prog) Tryd.underlying9 (s := str s) (by rw [str_size]; exact hs)
  rw [str_toList] at this
  exact this
/-- The data of an array of integers, whatever the depth. -/
theorem keyLits_intsK {P : Program} (t e : TypeId) (n D : Nat) (k : IntKind) (hu : P.underlying t = some (.array n e)) (he : P.underlying e = some (.int k)) (hce : P.cellsOf e = 1) (hct : P.cellsOf t = n)
    (zs : List Int) (hl : zs.length = n) (hw : ∀ z ∈ zs, (Lit.int k z).wf = true) : ∃ la, P.keyLits (D + 2) t (zs.map (Value.int k)) = some la := by
  unfold Program.keyLits
  simp only [hu]
  rw [if_pos (by simp [hl, hct])]
  rw [mapM_some _ (fun i => [Lit.int k (zs.getD i 0)]) _ (fun i hi => ?_)]
  · exact ⟨_, rfl⟩
  · have hi' : i < zs.length := by rw [hl]; exact List.mem_range.1 hi
    rw [hce, Nat.mul_one, List.drop_eq_getElem_cons (by simpa using hi')]
    unfold Program.keyLits
    simp only [he]
    have hz : (Lit.int k zs[i]).wf = true := hw _ (List.getElem_mem _)
    simp [hz, hi']
theorem keyOf_dig (d : List UInt8) (hd : d.length = 32) : ∃ l, keyOf Tryd.prog 23 (.agg (bc d)) = some l := by
  have hf : (Value.agg (bc d)).formed Tryd.prog 23 = true := by simp only [Value.formed, Tryd.underlying23, bc_size, hd]; kernel_rfl
  have hk : Tryd.prog.keyType 23 = true := by kernel_rfl
  obtain ⟨la, hla⟩ := keyLits_intsK (P := Tryd.prog) 23 5 32 (Tryd.prog.types.size - 1) .u8 Tryd.underlying23 Tryd.underlying5 (by kernel_rfl) (by kernel_rfl) (d.map fun b => (b.toNat : Int)) (by simpa using hd) (fun z hz => by
    obtain ⟨b, _, rfl⟩ := List.mem_map.1 hz
    have := b.toNat_lt
    simp [Lit.wf, IntKind.min, IntKind.max, IntKind.signed, IntKind.bits]; omega)
  have hts : Tryd.prog.types.size - 1 + 2 = Tryd.prog.types.size + 1 := by
    have h1 : 1 ≤ Tryd.prog.types.size := Nat.lt_of_le_of_lt (Nat.zero_le _) rowOfD
    generalize Tryd.prog.types.size = z at *
    omega
  rw [hts] at hla
  refine ⟨.string (keyBytes la), ?_⟩
  unfold keyOf
  simp only [Tryd.underlying23]
  rw [if_pos (by rw [hk, hf]; rfl)]
  have e : (Value.agg (bc d)).cells.toList = (d.map fun b => (b.toNat : Int)).map (Value.int .u8) := by
    show (bc d).toList = _
    simp [bc, Lib.byteCells]
  rw [e, hla]; rfl
noncomputable def dKey (d : List UInt8) : Lit := (keyOf Tryd.prog 23 (.agg (bc d))).getD (.bool false)
theorem dKey_is (d : List UInt8) (hd : d.length = 32) : keyOf Tryd.prog 23 (.agg (bc d)) = some (dKey d) := by
  obtain ⟨l, hl⟩ := keyOf_dig d hd
  unfold dKey; rw [hl]; rfl
theorem bc_injK {l m : List UInt8} (h : bc l = bc m) : l = m := by
  unfold bc Lib.byteCells at h
  have h2 := congrArg Array.toList h
  simp only at h2
  refine List.map_inj_right ?_ |>.1 h2
  intro a b hab
  injection hab with _ hab
  exact UInt8.toNat.inj (by exact_mod_cast hab)
set_option maxRecDepth 100000 in
theorem dKey_inj (d e : List UInt8) (hd : d.length = 32) (he : e.length = 32) (h : dKey d = dKey e) : d = e := by
  have h1 := dKey_is d hd
  have h2 := dKey_is e he
  rw [← h] at h2
  have := lawD.inj h1 h2
  injection this with this
  exact bc_injK this
/-- What is kept beside a log: all blocks but its own and its maps'. -/
structure But (b : Nat) (ms : Option (Nat × Nat)) (w w' : World) : Prop where
  os : w'.os = w.os
  tape : w'.tape = w.tape
  output : w'.output = w.output
  size : w.heap.size ≤ w'.heap.size
  block : ∀ k, k < w.heap.size → k ≠ b → (∀ m, ms = some m → k ≠ m.1 ∧ k ≠ m.2) → w'.heap[k]? = w.heap[k]?
theorem But.of_below {b : Nat} {ms : Option (Nat × Nat)} {w w' : World} (h : Below w.heap.size w w') : But b ms w w' := ⟨h.os, h.tape, h.output, h.size, fun k hk _ _ => h.block k hk⟩
theorem But.trans {b : Nat} {ms ms' : Option (Nat × Nat)} {w w' w'' : World} (h : But b ms w w') (h' : But b ms' w' w'') (hm : ms' = ms ∨ (ms = none ∧ ∀ m, ms' = some m → w.heap.size ≤ m.1 ∧ w.heap.size ≤ m.2)) : But b ms w w'' := by
  refine ⟨h'.os.trans h.os, h'.tape.trans h.tape, h'.output.trans h.output, Nat.le_trans h.size h'.size, fun k hk hb hms => ?_⟩
  refine (h'.block k (Nat.lt_of_lt_of_le hk h.size) hb fun m hm' => ?_).trans (h.block k hk hb hms)
  rcases hm with rfl | ⟨rfl, hn⟩
  · exact hms m hm'
  · have := hn m hm'; omega
/-- A log of inputs. -/
def LogAt (w : World) (b : Nat) (ms : Option (Nat × Nat)) (ins : List (List UInt8)) : Prop :=
  match ms with
  | none => ins = [] ∧ w.heap[b]? = some (.cells #[.map none, .map none] 113 (0, 0))
  | some (m1, m2) => w.heap[b]? = some (.cells #[.map (some m1), .map (some m2)] 113 (0, 0)) ∧ m1 ≠ m2 ∧ b ≠ m1 ∧ b ≠ m2 ∧
      w.ownsMap Tryd.prog 9 R0 m1 ins.length (setOf u0 (ins.map Lit.string)) ∧ w.ownsMap Tryd.prog 23 R0 m2 ins.length (setOf u0 (ins.map fun s => dKey (pSum [s])))
end Go.Proofs.YtonmccmeljeopaaDoor

namespace Go.Proofs.YtonmccmeljeopaaDoor
open Go Go.RowKit Go.Maps
open Go.WideElems (Fit rd rg pl rd_val)
open Go.ChangeMaps
set_option linter.unusedSimpArgs false
set_option linter.unusedVariables false

/-- How a list that stands in a map reads: as its own value. -/
def RV : Value → Option (DataW Unit × List MemPlace)
  | .slice none n c => some (.agg [.lit (.int .i64 (n : Int)), .lit (.int .i64 (c : Int))], [])
  | .slice (some ⟨g, o, none⟩) n c => some (.agg [.lit (.int .i64 (g : Int)), .lit (.int .i64 (o : Int)), .lit (.int .i64 (n : Int)), .lit (.int .i64 (c : Int))], [])
  | _ => none
abbrev nilD : DataW Unit := .agg [.lit (.int .i64 0), .lit (.int .i64 0)]
theorem RV_inj {v v' : Value} {z z' : DataW Unit × List MemPlace} (h : RV v = some z) (h' : RV v' = some z') (e : z.1 = z'.1) : v = v' := by
  unfold RV at h h'
  split at h <;> split at h' <;> simp_all <;> (subst h; subst h'; simp_all) <;> omega
theorem RV_places {v : Value} {z : DataW Unit × List MemPlace} (h : RV v = some z) : z.2 = [] := by
  unfold RV at h
  split at h
  · cases h; rfl
  · cases h; rfl
  · cases h
theorem RV_nil : RV (.slice none 0 0) = some (nilD, []) := rfl
theorem RV_some (g n c : Nat) : ∃ d, RV (.slice (some ⟨g, 0, none⟩) n c) = some (d, []) := ⟨_, rfl⟩

/-- The inputs of one digest. -/
def grp (d : List UInt8) (ins : List (List UInt8)) : List (List UInt8) := ins.filter fun s => decide (pSum [s] = d)
/-- Noted once. -/
def rnoted (s : List UInt8) (ins : List (List UInt8)) : List (List UInt8) := if s ∈ ins then ins else ins ++ [s]
theorem grp_same (s d : List UInt8) (ins : List (List UInt8)) (h : pSum [s] = d) : grp d (ins ++ [s]) = grp d ins ++ [s] := by
  simp [grp, List.filter_append, h]
theorem grp_other (s d : List UInt8) (ins : List (List UInt8)) (h : pSum [s] ≠ d) : grp d (ins ++ [s]) = grp d ins := by
  simp [grp, List.filter_append, h]
theorem mem_grp (s : List UInt8) (ins : List (List UInt8)) : s ∈ grp (pSum [s]) ins ↔ s ∈ ins := by simp [grp]
theorem grp_le (d : List UInt8) (ins : List (List UInt8)) : (grp d ins).length ≤ ins.length := List.length_filter_le _ _
/-- How many digests. -/
def cntR : List (List UInt8) → Nat
  | [] => 0
  | s :: r => if r.any (fun t => decide (pSum [t] = pSum [s])) then cntR r else cntR r + 1
def cnt (ins : List (List UInt8)) : Nat := cntR ins.reverse
theorem cntR_le : ∀ l : List (List UInt8), cntR l ≤ l.length
  | [] => Nat.le_refl _
  | s :: r => by
    have := cntR_le r
    unfold cntR
    split <;> simp <;> omega
theorem cntR_lt : ∀ (l : List (List UInt8)) (s t : List UInt8), s ∈ l → t ∈ l → s ≠ t → pSum [s] = pSum [t] → cntR l < l.length
  | [], s, t, hs, _, _, _ => by cases hs
  | x :: r, s, t, hs, ht, hne, he => by
    have hle := cntR_le r
    unfold cntR
    by_cases hx : r.any (fun t => decide (pSum [t] = pSum [x])) = true
    · rw [if_pos hx]; simp; omega
    · rw [if_neg hx]
      have no : ∀ y ∈ r, pSum [y] ≠ pSum [x] := fun y hy e => hx (List.any_eq_true.2 ⟨y, hy, by simpa using e⟩)
      rcases List.mem_cons.1 hs with rfl | hs'
      · rcases List.mem_cons.1 ht with rfl | ht'
        · exact absurd rfl hne
        · exact absurd he.symm (no t ht')
      · rcases List.mem_cons.1 ht with rfl | ht'
        · exact absurd he (no s hs')
        · have := cntR_lt r s t hs' ht' hne he
          simp; omega
theorem cnt_lt (ins : List (List UInt8)) (s t : List UInt8) (hs : s ∈ ins) (ht : t ∈ ins) (hne : s ≠ t) (he : pSum [s] = pSum [t]) : cnt ins < ins.length := by
  have := cntR_lt ins.reverse s t (by simpa using hs) (by simpa using ht) hne he
  simpa [cnt] using this
theorem cnt_snoc (ins : List (List UInt8)) (s : List UInt8) : cnt (ins ++ [s]) = if decide (grp (pSum [s]) ins ≠ []) = true then cnt ins else cnt ins + 1 := by
  have e : ins.reverse.any (fun t => decide (pSum [t] = pSum [s])) = decide (grp (pSum [s]) ins ≠ []) := by
    rw [List.any_reverse]
    by_cases h : ins.any (fun t => decide (pSum [t] = pSum [s])) = true
    · rw [h]
      obtain ⟨y, hy, hyy⟩ := List.any_eq_true.1 h
      symm; simp only [decide_eq_true_eq]
      intro h0
      have : y ∈ grp (pSum [s]) ins := by simp [grp, hy]; simpa using hyy
      rw [h0] at this; cases this
    · have h' : ins.any (fun t => decide (pSum [t] = pSum [s])) = false := by simpa using h
      rw [h']
      symm; simp only [decide_eq_false_iff_not, Classical.not_not]
      refine List.filter_eq_nil_iff.2 fun y hy => ?_
      have := List.any_eq_false.1 h' y hy
      simpa using this
  unfold cnt
  rw [List.reverse_append, List.reverse_cons, List.reverse_nil, List.nil_append, List.singleton_append, cntR, e]

theorem owns_at {base n sz : Nat} {w w' : World} {t : TypeId} {v : Value} {xs : List Value} (h : w.ownsRow base t sz v n xs) (hk : ∀ k, v.ownBlock = some k → w'.heap[k]? = w.heap[k]?) : w'.ownsRow base t sz v n xs := by
  refine ⟨h.1, ?_⟩
  rcases h.2 with h2 | ⟨g, cap, cur, rfl, hB, hg, rest⟩
  · exact .inl h2
  · exact .inr ⟨g, cap, cur, rfl, hB, (hk g rfl).trans hg, rest⟩
theorem map_at {k : TypeId} {R : Value → Option (DataW Unit × List MemPlace)} {b n : Nat} {D : DataW Unit} {P : Program} {w w' : World} (h : w.ownsMap P k R b n D) (hb : w'.heap[b]? = w.heap[b]?) : w'.ownsMap P k R b n D := by
  obtain ⟨es, c, h1, h2⟩ := h
  exact ⟨es, c, hb.trans h1, h2⟩
theorem owns_room {base n sz : Nat} {w : World} {t : TypeId} {v : Value} {xs : List Value} (h : w.ownsRow base t sz v n xs) : v = .slice none 0 0 ∨ ∃ g c, v = .slice (some ⟨g, 0, none⟩) n c := by
  rcases h.2 with ⟨rfl, _⟩ | ⟨g, cap, cur, rfl, _⟩
  · exact .inl rfl
  · exact .inr ⟨g, cap, rfl⟩
theorem owns_RV {base n sz : Nat} {w : World} {t : TypeId} {v : Value} {xs : List Value} (h : w.ownsRow base t sz v n xs) : ∃ d, RV v = some (d, []) := by
  rcases owns_room h with rfl | ⟨g, c, rfl⟩
  · exact ⟨_, rfl⟩
  · exact ⟨_, rfl⟩

structure RLog (w : World) (b : Nat) (S : Nat → Prop) (ins : List (List UInt8)) (base m : Nat) (iv : Value) (D : DataW Unit) (val : List UInt8 → Value) : Prop where
  obj : w.heap[b]? = some (.cells #[iv, .map (some m)] 49 (0, 0))
  ne : b ≠ m
  lob : b < base
  lom : m < base
  bs : base ≤ w.heap.size
  inp : w.ownsRow base 9 1 iv ins.length (ins.map fun s => .string (str s))
  map : w.ownsMap Tryd.prog 23 RV m ins.length D
  look : ∀ d, d.length = 32 → RV (val d) = some (D.atKey (dKey d) nilD, [])
  vals : ∀ d, d.length = 32 → w.ownsRow base 9 1 (val d) (grp d ins).length ((grp d ins).map fun s => .string (str s))
  apart : ∀ d e, d.length = 32 → e.length = 32 → d ≠ e → ∀ k, (val d).ownBlock = some k → (val e).ownBlock ≠ some k
  away : ∀ d, d.length = 32 → ∀ k, (val d).ownBlock = some k → iv.ownBlock ≠ some k
  has : ∀ d, d.length = 32 → has D (dKey d) = decide (grp d ins ≠ [])
  size : Maps.size D = cnt ins
  myb : S b
  mym : S m
  myi : ∀ k, iv.ownBlock = some k → S k
  myv : ∀ d, d.length = 32 → ∀ k, (val d).ownBlock = some k → S k
  old : ∀ k, S k → k < w.heap.size
def RLogAt (w : World) (b : Nat) (S : Nat → Prop) (ins : List (List UInt8)) : Prop := ∃ base m iv D val, RLog w b S ins base m iv D val
theorem RLog.kept {w w' : World} {b : Nat} {S : Nat → Prop} {ins : List (List UInt8)} {base m : Nat} {iv : Value} {D : DataW Unit} {val : List UInt8 → Value} (h : RLog w b S ins base m iv D val) (hk : ∀ k, S k → w'.heap[k]? = w.heap[k]?) (hs : w.heap.size ≤ w'.heap.size) : RLog w' b S ins base m iv D val :=
  ⟨(hk b h.myb).trans h.obj, h.ne, h.lob, h.lom, Nat.le_trans h.bs hs, owns_at h.inp (fun k e => hk k (h.myi k e)), map_at h.map (hk m h.mym), h.look, fun d hd => owns_at (h.vals d hd) (fun k e => hk k (h.myv d hd k e)), h.apart, h.away, h.has, h.size, h.myb, h.mym, h.myi, h.myv, fun k hS => Nat.lt_of_lt_of_le (h.old k hS) hs⟩
theorem RLogAt.kept {w w' : World} {b : Nat} {S : Nat → Prop} {ins : List (List UInt8)} (h : RLogAt w b S ins) (hk : ∀ k, S k → w'.heap[k]? = w.heap[k]?) (hs : w.heap.size ≤ w'.heap.size) : RLogAt w' b S ins := by
  obtain ⟨base, m, iv, D, val, h⟩ := h
  exact ⟨base, m, iv, D, val, h.kept hk hs⟩
theorem RLogAt.old {w : World} {b : Nat} {S : Nat → Prop} {ins : List (List UInt8)} (h : RLogAt w b S ins) : ∀ k, S k → k < w.heap.size := by
  obtain ⟨base, m, iv, D, val, h⟩ := h
  exact h.old
theorem RLogAt.mine {w : World} {b : Nat} {S : Nat → Prop} {ins : List (List UInt8)} (h : RLogAt w b S ins) : S b := by
  obtain ⟨base, m, iv, D, val, h⟩ := h
  exact h.myb
theorem RLog.below {w w' : World} {b : Nat} {S : Nat → Prop} {ins : List (List UInt8)} {base m : Nat} {iv : Value} {D : DataW Unit} {val : List UInt8 → Value} (h : RLog w b S ins base m iv D val) (hb : Below w.heap.size w w') : RLog w' b S ins base m iv D val := h.kept (fun k hS => hb.block k (h.old k hS)) hb.size
theorem RLogAt.below {w w' : World} {b : Nat} {S : Nat → Prop} {ins : List (List UInt8)} (h : RLogAt w b S ins) (hb : Below w.heap.size w w') : RLogAt w' b S ins := h.kept (fun k hS => hb.block k (h.old k hS)) hb.size
/-- What is kept beside a log: all blocks but its own. -/
structure RBut (S : Nat → Prop) (w w' : World) : Prop where
  os : w'.os = w.os
  tape : w'.tape = w.tape
  output : w'.output = w.output
  size : w.heap.size ≤ w'.heap.size
  block : ∀ k, k < w.heap.size → ¬ S k → w'.heap[k]? = w.heap[k]?
/-- A step that a log goes through: what it holds behind it, what is kept. -/
def RStep (b : Nat) (S : Nat → Prop) (ins : List (List UInt8)) (w w' : World) : Prop := ∃ S', RLogAt w' b S' ins ∧ RBut S w w' ∧ ∀ k, S' k → S k ∨ w.heap.size ≤ k
theorem RBut.refl (S : Nat → Prop) (w : World) : RBut S w w := ⟨rfl, rfl, rfl, Nat.le_refl _, fun _ _ _ => rfl⟩
theorem RBut.trans {S S' : Nat → Prop} {w w' w'' : World} (h : RBut S w w') (h' : RBut S' w' w'') (hs : ∀ k, S' k → S k ∨ w.heap.size ≤ k) : RBut S w w'' :=
  ⟨h'.os.trans h.os, h'.tape.trans h.tape, h'.output.trans h.output, Nat.le_trans h.size h'.size, fun k hk hS => (h'.block k (Nat.lt_of_lt_of_le hk h.size) (fun h1 => (hs k h1).elim hS (fun h2 => by omega))).trans (h.block k hk hS)⟩
theorem RBut.of_below {S : Nat → Prop} {w w' : World} (h : Below w.heap.size w w') : RBut S w w' := ⟨h.os, h.tape, h.output, h.size, fun k hk _ => h.block k hk⟩
theorem RStep.same {b : Nat} {S : Nat → Prop} {ins : List (List UInt8)} {w w' : World} (h : RLogAt w b S ins) (hb : Below w.heap.size w w') : RStep b S ins w w' := ⟨S, h.below hb, RBut.of_below hb, fun k h => .inl h⟩
theorem RStep.ahead {b : Nat} {S : Nat → Prop} {ins : List (List UInt8)} {w w' w'' : World} (hb : Below w.heap.size w w') (h : RStep b S ins w' w'') : RStep b S ins w w'' := by
  obtain ⟨S', h1, h2, h3⟩ := h
  exact ⟨S', h1, (RBut.of_below hb).trans h2 (fun k hk => .inl hk), fun k hk => (h3 k hk).imp_right (Nat.le_trans hb.size)⟩
/-- Behind it what is no part of the log, and newer than the call, may turn. -/
theorem RStep.close {b : Nat} {S : Nat → Prop} {ins : List (List UInt8)} {w w3 w4 w5 : World} (hb : Below w.heap.size w w3) (h : RStep b S ins w3 w4) (hS : ∀ k, S k → k < w.heap.size) (ho : w5.os = w4.os) (ht : w5.tape = w4.tape) (hp : w5.output = w4.output) (hs : w4.heap.size ≤ w5.heap.size)
    (hk : ∀ k, k < w4.heap.size → k < w.heap.size ∨ w3.heap.size ≤ k → w5.heap[k]? = w4.heap[k]?) : RStep b S ins w w5 := by
  obtain ⟨S', h1, h2, h3⟩ := h
  have hz := hb.size
  refine ⟨S', h1.kept (fun k hk' => hk k (h1.old k hk') ((h3 k hk').imp_left (hS k))) hs, ⟨ho.trans (h2.os.trans hb.os), ht.trans (h2.tape.trans hb.tape), hp.trans (h2.output.trans hb.output), Nat.le_trans hz (Nat.le_trans h2.size hs), fun k hk' hn => ?_⟩, fun k hk' => (h3 k hk').imp_right (Nat.le_trans hz)⟩
  rw [hk k (Nat.lt_of_lt_of_le hk' (Nat.le_trans hz h2.size)) (.inl hk'), h2.block k (Nat.lt_of_lt_of_le hk' hz) hn, hb.block k hk']
theorem RStep.trans {b : Nat} {S S' : Nat → Prop} {ins : List (List UInt8)} {w w' w'' : World} (h2 : RBut S w w') (h3 : ∀ k, S' k → S k ∨ w.heap.size ≤ k) (h : RStep b S' ins w' w'') : RStep b S ins w w'' := by
  obtain ⟨S'', k1, k2, k3⟩ := h
  exact ⟨S'', k1, h2.trans k2 h3, fun k hk => (k3 k hk).elim (h3 k) (fun hh => .inr (Nat.le_trans h2.size hh))⟩
theorem setRow_step {w w4 : World} {b : Nat} {S : Nat → Prop} {ins : List (List UInt8)} {w3 : World} (hb : Below w.heap.size w w3) (h : RStep b S ins w3 w4) (hS : ∀ k, S k → k < w.heap.size) (N : Nat) (hN : w.heap.size ≤ N) (hN3 : N < w3.heap.size) (cs : Array Value) : RStep b S ins w (w4.setRow N cs) :=
  h.close hb hS rfl rfl rfl (by rw [setRow_size]; exact Nat.le_refl _) (fun k _ hk => setRow_other _ _ _ _ (by omega))

theorem key_one : ∀ (l : List MapEntry), (l.map (·.key)).Nodup → ∀ x ∈ l, ∀ y ∈ l, x.key = y.key → x = y
  | [], _, x, hx, _, _, _ => by cases hx
  | a :: r, hn, x, hx, y, hy, e => by
    simp only [List.map_cons, List.nodup_cons] at hn
    rcases List.mem_cons.1 hx with rfl | hx' <;> rcases List.mem_cons.1 hy with rfl | hy'
    · rfl
    · exact absurd (List.mem_map.2 ⟨y, hy', e.symm⟩) hn.1
    · exact absurd (List.mem_map.2 ⟨x, hx', e⟩) hn.1
    · exact key_one r hn.2 x hx' y hy' e
/-- m[k], to be stored at again. -/
theorem map_entry {P : Program} {t k e : TypeId} {R : Value → Option (DataW Unit × List MemPlace)} {b n : Nat} {D : DataW Unit} {w : World} (h : w.ownsMap P k R b n D) (K : WideMaps.KeyLaw P k) (ht : P.underlying t = some (.map k e)) {z : Value} (hz : ∀ u : World, (zeroValue e).run P u = .ok z u) {zd : DataW Unit} (hzd : R z = some (zd, []))
    (hn : n < maxLen) {key : Value} {kl : Lit} (hkey : keyOf P k key = some kl) :
    ∃ (v0 : Value) (st : Value) (es1 : Array MapEntry) (c1 : Nat), (Instr.mapEntry t (.map (some b)) key).run P w = .ok (.tuple #[v0, st]) (setBlock w b (.map es1 c1)) ∧ (∃ ps, R v0 = some (D.atKey kl zd, ps)) ∧
      ∀ (w2 : World) (val : Value) (d : DataW Unit), R val = some (d, []) → w2.heap[b]? = some (.map es1 c1) → ∃ es' c', (Instr.entryStore t (.map (some b)) st val).run P w2 = .ok () (setBlock w2 b (.map es' c')) ∧
        ∀ w3 : World, w3.heap[b]? = some (.map es' c') → w3.ownsMap P k R b (n + 1) (D.put kl d) := by
  have h0 := h
  obtain ⟨es, clock, hb, F, hs, rfl⟩ := h
  have K' := Keyed.of_law K
  obtain ⟨v0, st, es1, c1, hr, hwho, hst⟩ := WideElems.entry_then_store K ht hz hb F hkey
  refine ⟨v0, goInt st, es1, c1, hr, ?_, fun w2 val d hv hw2 => ?_⟩
  · rcases Maps.fit_look false K' ht (hz w) hb F hkey with ⟨hrun, hno, hat⟩ | ⟨e0, y, hm0, h3, hrun, hR, hat, _⟩
    · rcases hwho with ⟨e1, he1, hk1, _⟩ | ⟨_, rfl⟩
      · exact absurd hk1 (hno e1 he1)
      · exact ⟨[], by rw [hat zd]; exact hzd⟩
    · rcases hwho with ⟨e1, he1, hk1, rfl⟩ | ⟨hno, _⟩
      · have e2 := key_one es.toList F.stamped.2.2 e1 he1 e0 hm0 (hk1.trans h3.symm)
        subst e2
        exact ⟨y.2, by rw [hat zd]; exact hR⟩
      · exact absurd h3 (hno e0 hm0)
  · obtain ⟨es', c', hr2, hr3⟩ := hst w2 val hw2
    obtain ⟨w', hu, ho, _⟩ := h0.update K' ht hn hkey hv
    refine ⟨es', c', hr2, fun w3 hw3 => map_at ho ?_⟩
    rw [hr3] at hu
    simp only [Result.ok.injEq, true_and] at hu
    rw [hw3, ← hu]
    exact (heap_setBlock_same hb _).symm
end Go.Proofs.YtonmccmeljeopaaDoor

namespace Go.Proofs.YtonmccmeljeopaaDoor
open Go Go.RowKit Go.Maps
set_option linter.unusedSimpArgs false
set_option linter.unusedVariables false

set_option maxRecDepth 100000 in
theorem dKey_lit (d : List UInt8) (hd : d.length = 32) : WideAt.IsKeyLit (dKey d) := lawD.key (dKey_is d hd)
set_option maxRecDepth 100000 in
theorem RLog.add {w w' : World} {b : Nat} {S : Nat → Prop} {ins : List (List UInt8)} {base m : Nat} {iv : Value} {D : DataW Unit} {val : List UInt8 → Value} (h : RLog w b S ins base m iv D val) (s d : List UInt8) (hd : d.length = 32) (hds : pSum [s] = d) (iv' v' : Value) (dv : DataW Unit)
    (hz : w.heap.size ≤ w'.heap.size) (hobj : w'.heap[b]? = some (.cells #[iv', .map (some m)] 49 (0, 0)))
    (hi : w'.ownsRow base 9 1 iv' (ins.length + 1) ((ins.map fun s => .string (str s)) ++ [.string (str s)])) (hi2 : iv'.ownBlock = iv.ownBlock ∨ ∃ g, iv'.ownBlock = some g ∧ w.heap.size ≤ g)
    (hm : w'.ownsMap Tryd.prog 23 RV m (ins.length + 1) (D.put (dKey d) dv)) (hv : RV v' = some (dv, []))
    (ho : w'.ownsRow base 9 1 v' ((grp d ins).length + 1) (((grp d ins).map fun s => .string (str s)) ++ [.string (str s)])) (hv2 : v'.ownBlock = (val d).ownBlock ∨ ∃ g, v'.ownBlock = some g ∧ w.heap.size ≤ g)
    (hne : ∀ k, v'.ownBlock = some k → iv'.ownBlock ≠ some k)
    (hk : ∀ k, k < w.heap.size → k ≠ b → k ≠ m → iv.ownBlock ≠ some k → (val d).ownBlock ≠ some k → w'.heap[k]? = w.heap[k]?) :
    ∃ S', RLog w' b S' (ins ++ [s]) base m iv' (D.put (dKey d) dv) (fun e => if e = d then v' else val e) ∧ ∀ k, S' k → S k ∨ w.heap.size ≤ k := by
  have hlt : ∀ k, iv'.ownBlock = some k → k < w'.heap.size := fun k e => (hi.lt k e).2
  have hlv : ∀ k, v'.ownBlock = some k → k < w'.heap.size := fun k e => (ho.lt k e).2
  have tidy : Tidy D := h.map.tidy lawD
  have inj : ∀ e : List UInt8, e.length = 32 → e ≠ d → dKey e ≠ dKey d := fun e he hne h1 => hne (dKey_inj e d he hd h1)
  have oldv : ∀ e, e.length = 32 → ∀ k, (val e).ownBlock = some k → k < w.heap.size := fun e he k hk' => h.old k (h.myv e he k hk')
  have oldi : ∀ k, iv.ownBlock = some k → k < w.heap.size := fun k hk' => h.old k (h.myi k hk')
  -- another digest's list lies apart from what turned
  have keptv : ∀ e, e.length = 32 → e ≠ d → ∀ k, (val e).ownBlock = some k → w'.heap[k]? = w.heap[k]? := fun e he hne' k hk' => by
    have hb := (h.vals e he).lt k hk'
    refine hk k (oldv e he k hk') (by have := h.lob; omega) (by have := h.lom; omega) (h.away e he k hk') (fun h1 => ?_)
    exact h.apart e d he hd hne' k hk' h1
  refine ⟨fun k => S k ∨ iv'.ownBlock = some k ∨ v'.ownBlock = some k, ⟨hobj, h.ne, h.lob, h.lom, Nat.le_trans h.bs hz, ?_, ?_, ?_, ?_, ?_, ?_, ?_, ?_, .inl h.myb, .inl h.mym, fun k e => .inr (.inl e), ?_, ?_⟩, ?_⟩
  · rw [List.length_append, List.map_append]; exact hi
  · rw [List.length_append]; exact hm
  · intro e he
    by_cases hed : e = d
    · subst hed
      rw [if_pos rfl, atKey_put_same tidy.isMap (dKey_lit e he)]; exact hv
    · rw [if_neg hed, atKey_put_other (inj e he hed)]; exact h.look e he
  · intro e he
    by_cases hed : e = d
    · subst hed
      rw [if_pos rfl, grp_same s e ins hds, List.length_append, List.map_append]; exact ho
    · rw [if_neg hed, grp_other s e ins (fun h1 => hed (h1.symm.trans hds))]
      exact owns_at (h.vals e he) (keptv e he hed)
  · intro e f he hf hef k
    by_cases hed : e = d
    · by_cases hfd : f = d
      · exact absurd (hed.trans hfd.symm) hef
      · rw [if_pos hed, if_neg hfd]
        intro h1 h2
        rcases hv2 with h3 | ⟨g, h3, h4⟩
        · rw [h3] at h1
          exact h.apart d f hd hf (fun h5 => hfd h5.symm) k h1 h2
        · have := oldv f hf k h2
          rw [h3] at h1
          have := Option.some.inj h1
          omega
    · by_cases hfd : f = d
      · rw [if_neg hed, if_pos hfd]
        intro h1 h2
        rcases hv2 with h3 | ⟨g, h3, h4⟩
        · rw [h3] at h2
          exact h.apart e d he hd hed k h1 h2
        · have := oldv e he k h1
          rw [h3] at h2
          have := Option.some.inj h2
          omega
      · rw [if_neg hed, if_neg hfd]
        exact h.apart e f he hf hef k
  · intro e he k
    by_cases hed : e = d
    · rw [if_pos hed]; exact hne k
    · rw [if_neg hed]
      intro h1 h2
      rcases hi2 with h3 | ⟨g, h3, h4⟩
      · rw [h3] at h2; exact h.away e he k h1 h2
      · have := oldv e he k h1
        rw [h3] at h2
        have := Option.some.inj h2
        omega
  · intro e he
    by_cases hed : e = d
    · subst hed
      rw [has_put_same tidy.isMap (dKey_lit e he), grp_same s e ins hds]
      simp
    · rw [has_put_other (inj e he hed), grp_other s e ins (fun h1 => hed (h1.symm.trans hds))]
      exact h.has e he
  · rw [size_put tidy, cnt_snoc, h.has d hd, h.size, hds]
  · intro e he k
    by_cases hed : e = d
    · rw [if_pos hed]; exact fun h1 => .inr (.inr h1)
    · rw [if_neg hed]; exact fun h1 => .inl (h.myv e he k h1)
  · rintro k (h1 | h1 | h1)
    · exact Nat.lt_of_lt_of_le (h.old k h1) hz
    · exact hlt k h1
    · exact hlv k h1
  · rintro k (h1 | h1 | h1)
    · exact .inl h1
    · rcases hi2 with h3 | ⟨g, h3, h4⟩
      · rw [h3] at h1; exact .inl (h.myi k h1)
      · rw [h3] at h1; have := Option.some.inj h1; right; omega
    · rcases hv2 with h3 | ⟨g, h3, h4⟩
      · rw [h3] at h1; exact .inl (h.myv d hd k h1)
      · rw [h3] at h1; have := Option.some.inj h1; right; omega
end Go.Proofs.YtonmccmeljeopaaDoor

namespace Go.Proofs.YtonmccmeljeopaaDoor
open Go Go.RowKit

theorem wpOp_list {P : Program} {ops : Array Oper} {Q : Exit → Act → World → Prop} {i : Nat} {o : Oper} {K : Act → World → Prop} {a : Act} {w : World} (hi : ops[i]? = some o) (h : wpList P ops (Exit.then K Q) [o] a w) : wpOp P ops Q i K a w := by
  unfold wpOp
  simp only [hi]
  exact h
/-- Whichever of those that may come up comes up, walked as a list of one. -/
theorem wpAnyH_one {P : Program} {md : Region.Mode} {ops : Array Oper} {Q : Exit → Act → World → Prop} {S : World → Prop} {fuel : Nat} {listed : Array Bool} {a : Act} {w : World} (i : Nat) (o : Oper) (hr : Region.ready md ops listed = [i]) (hi : ops[i]? = some o)
    (h : wpList P ops (Exit.then (fun a' w' => S w' ∧ wpAnyH P md ops Q S fuel (listed.setIfInBounds i true) a' w') Q) [o] a w) : wpAnyH P md ops Q S (fuel + 1) listed a w :=
  wpAnyH_all hr (by simp) fun j hj => by
    obtain rfl : j = i := by simpa using hj
    exact wpOp_list hi h
theorem wpAnyH_two {P : Program} {md : Region.Mode} {ops : Array Oper} {Q : Exit → Act → World → Prop} {S : World → Prop} {fuel : Nat} {listed : Array Bool} {a : Act} {w : World} (i k : Nat) (o u : Oper) (hr : Region.ready md ops listed = [i, k]) (hi : ops[i]? = some o) (hk : ops[k]? = some u)
    (h : wpList P ops (Exit.then (fun a' w' => S w' ∧ wpAnyH P md ops Q S fuel (listed.setIfInBounds i true) a' w') Q) [o] a w)
    (h' : wpList P ops (Exit.then (fun a' w' => S w' ∧ wpAnyH P md ops Q S fuel (listed.setIfInBounds k true) a' w') Q) [u] a w) : wpAnyH P md ops Q S (fuel + 1) listed a w :=
  wpAnyH_all hr (by simp) fun j hj => by
    have hj' : j = i ∨ j = k := by simpa using hj
    rcases hj' with rfl | rfl
    · exact wpOp_list hi h
    · exact wpOp_list hk h'
theorem wpAnyH_three {P : Program} {md : Region.Mode} {ops : Array Oper} {Q : Exit → Act → World → Prop} {S : World → Prop} {fuel : Nat} {listed : Array Bool} {a : Act} {w : World} (i k l : Nat) (o u v : Oper) (hr : Region.ready md ops listed = [i, k, l]) (hi : ops[i]? = some o) (hk : ops[k]? = some u) (hl : ops[l]? = some v)
    (h : wpList P ops (Exit.then (fun a' w' => S w' ∧ wpAnyH P md ops Q S fuel (listed.setIfInBounds i true) a' w') Q) [o] a w)
    (h' : wpList P ops (Exit.then (fun a' w' => S w' ∧ wpAnyH P md ops Q S fuel (listed.setIfInBounds k true) a' w') Q) [u] a w)
    (h'' : wpList P ops (Exit.then (fun a' w' => S w' ∧ wpAnyH P md ops Q S fuel (listed.setIfInBounds l true) a' w') Q) [v] a w) : wpAnyH P md ops Q S (fuel + 1) listed a w :=
  wpAnyH_all hr (by simp) fun j hj => by
    have hj' : j = i ∨ j = k ∨ j = l := by simpa using hj
    rcases hj' with rfl | rfl | rfl
    · exact wpOp_list hi h
    · exact wpOp_list hk h'
    · exact wpOp_list hl h''
/-- A load of a part of a row, of a row, of a cell yields wherever they lie. -/
theorem yields_mid {P : Program} {ops : Array Oper} {S : World → Prop} {o : Oper} {a : Act} (hw : Region.wanted o (yielded ops a.tmps) = true) (ty : TypeId) (x : Operand) (ho : o.op = .load ty x)
    (b off : Nat) (hx : a.eval x = .pointer (some ⟨b, off, none⟩)) (cs : List Value) (d : TypeDesc) (hc : ∀ w, S w → w.rangeAt b off cs)
    (hu : P.underlying ty = some d) (hd : d.isRow = true) (hi : (P.info? ty).map (·.size) = some cs.length) : YieldsIf P ops S o (.agg cs.toArray) a := by
  refine .inl ⟨hw, fun w hS => ?_⟩
  have hl := run_loadVar_mid w b off ty cs d (hc w hS) hu hd hi
  unfold execOp
  simp only [ho, hx, Instr.loadAt, Instr.sureAddr, Sem.run_bind, Sem.run_pure, Result.andThen_ok, hl]
theorem yields_row {P : Program} {ops : Array Oper} {S : World → Prop} {o : Oper} {a : Act} (hw : Region.wanted o (yielded ops a.tmps) = true) (ty : TypeId) (x : Operand) (ho : o.op = .load ty x)
    (g : Nat) (hx : a.eval x = .pointer (some ⟨g, 0, none⟩)) (t : TypeId) (cs : Array Value) (fr : Nat × Nat) (d : TypeDesc) (hg : ∀ w, S w → w.heap[g]? = some (.cells cs t fr))
    (hu : P.underlying ty = some d) (hd : (match d with | .struct _ | .array _ _ => true | _ => false) = true) (hi : (P.info? ty).map (·.size) = some cs.size) : YieldsIf P ops S o (.agg cs) a := by
  refine .inl ⟨hw, fun w hS => ?_⟩
  have hl := run_loadVar_row w g t ty cs fr d (hg w hS) hu hd hi
  unfold execOp
  simp only [ho, hx, Instr.loadAt, Instr.sureAddr, Sem.run_bind, Sem.run_pure, Result.andThen_ok, hl]
theorem yields_build {P : Program} {ops : Array Oper} {S : World → Prop} {o : Oper} {a : Act} (hw : Region.wanted o (yielded ops a.tmps) = true) (t : TypeId) (parts : Array (Nat × Operand)) (ho : o.op = .build t parts) (cells : Array Value)
    (hb : P.built t (parts.toList.map fun (i, x) => (i, a.eval x)) = some cells) : YieldsIf P ops S o (.agg cells) a := by
  rw [← Array.toList_map] at hb
  refine .inl ⟨hw, fun w hS => ?_⟩
  unfold execOp
  simp only [ho, Sem.run_bind, run_build w t _ cells hb, Result.andThen_ok]
  rfl
end Go.Proofs.YtonmccmeljeopaaDoor

namespace Go.Proofs.YtonmccmeljeopaaDoor
open Go Go.RowKit
set_option linter.unusedSimpArgs false
set_option linter.unusedVariables false

theorem fill_one {s : Nat} (hs : 0 < s) (cs cells : Array Value) (hc : cs.size = s) (hz : cells.size = s) : Instr.fill (fun i => some (i * s, s)) cells [(0, .agg cs)] = some cs := by
  obtain ⟨r, hr, hsz, hk⟩ := Great.fill_dense hs [.agg cs] 0 cells (by simp [Value.cells, hc]) (by simp [hz])
  have e : r = cs := by
    apply Array.ext_getElem?
    intro k
    rw [hk k]
    by_cases h : k < s
    · rw [if_pos (by simp; omega)]
      simp [Nat.div_eq_of_lt h, Nat.mod_eq_of_lt h, Value.cells]
    · rw [if_neg (by simp; omega), Array.getElem?_eq_none (by omega), Array.getElem?_eq_none (by omega)]
  rw [e] at hr
  exact hr
theorem rowInfo {P : Program} {e : TypeId} {s b : Nat} (hi : (P.info? e).map (fun i => (i.size, i.bytes, i.zero.map (·.cells.size))) = some (s, b, some s)) : ∃ i z, P.info? e = some i ∧ i.zero = some z ∧ i.size = s ∧ i.bytes = b ∧ z.cells.size = s := by
  cases hq : P.info? e with
  | none => rw [hq] at hi; cases hi
  | some i =>
    rw [hq] at hi
    simp only [Option.map_some, Option.some.injEq, Prod.mk.injEq] at hi
    obtain ⟨h1, h2, h3⟩ := hi
    cases hz : i.zero with
    | none => rw [hz] at h3; cases h3
    | some z =>
      rw [hz] at h3
      simp only [Option.map_some, Option.some.injEq] at h3
      exact ⟨i, z, rfl, hz, h1, h2, h3⟩
theorem wpList_build_one {P : Program} {ops : Array Oper} {rest : List Oper} {o : Oper} {a : Act} {w : World} {Q : Exit → Act → World → Prop} (hg : o.guard = none) (t e : TypeId) (x : Operand) (ho : o.op = .buildSlice t 1 #[(0, x)]) (s b : Nat) (hs : 0 < s) (hs2 : s ≤ 1000)
    (cs : Array Value) (hx : a.eval x = .agg cs) (hc : cs.size = s) (hu : P.underlying t = some (.slice e)) (hi : (P.info? e).map (fun i => (i.size, i.bytes, i.zero.map (·.cells.size))) = some (s, b, some s))
    (h : wpList P ops Q rest (a.put o.dst (.slice (some ⟨w.heap.size, 0, none⟩) 1 1)) (w.alloc (.cells cs e))) : wpList P ops Q (o :: rest) a w := by
  obtain ⟨i, z, hie, hz, h1, h2, h3⟩ := rowInfo hi
  refine wpList_buildSlice hg t e 1 #[(0, x)] ho cs i z hu hie hz (by rw [h1]; omega) (by rw [h1]; omega) ?_ h
  rw [h1, show (#[(0, x)].map fun (p : Nat × Operand) => (p.1, a.eval p.2)).toList = [(0, .agg cs)] by simp [hx]]
  exact fill_one hs cs _ hc (by simp)
theorem wpList_append_one {P : Program} {ops : Array Oper} {rest : List Oper} {o : Oper} {a : Act} {Q : Exit → Act → World → Prop} (hgd : o.guard = none) (t e : TypeId) (sx x : Operand)
    (ho : o.op = .call { callee := .builtin .append, args := #[sx, x], argTypes := #[t, t] }) (s b : Nat) (hs : 0 < s) (hb2 : b ≤ 100000) (hu : P.underlying t = some (.slice e)) (hi : (P.info? e).map (fun i => (i.size, i.bytes, i.zero.map (·.cells.size))) = some (s, b, some s))
    (B : Nat) (v : Value) (n : Nat) (xs : List Value) (hv : a.eval sx = v) (wr : World) (hown : wr.ownsRow B e s v n xs) (hB : B ≤ wr.heap.size) (cs : Array Value) (hc : cs.size = s) (h1 : cs.all (·.oneCell') = true)
    (hx : a.eval x = .slice (some ⟨wr.heap.size, 0, none⟩) 1 1) (hlen : n + 1 ≤ 1048576)
    (h : ∀ v' w', w'.ownsRow B e s v' (n + 1) (xs ++ cs.toList) → Below B wr w' → (∀ k, k < wr.heap.size → some k ≠ v.ownBlock → w'.heap[k]? = wr.heap[k]?) → wpList P ops Q rest (a.put o.dst v') w') : wpList P ops Q (o :: rest) a (wr.alloc (.cells cs e)) := by
  obtain ⟨i, z, hie, hz, e1, e2, e3⟩ := rowInfo hi
  refine wpList_append_own _ hgd sx x t ho B e i z s b hu hie hz e1 e2 e3 hs v n xs hv (hown.alloc _) ⟨wr.heap.size, 0, none⟩ 1 1 cs.toList hx (by simp [hc]) ?_ ?_ (by unfold maxLen; omega) ?_ (by rw [World.size_alloc]; omega) ?_
  · intro j u hj
    rw [show (⟨wr.heap.size, 0, none⟩ : Addr).add j = ⟨wr.heap.size, j, none⟩ by unfold Addr.add; split <;> simp_all, cell_of_row _ _ _ _ _ _ (al1 wr (.cells cs e))]
    rw [← Array.getElem?_toList]; exact hj
  · intro u hu'
    exact Array.all_eq_true_iff_forall_mem.1 h1 u (Array.mem_toList_iff.1 hu')
  · exact Nat.le_trans (Nat.mul_le_mul hlen hb2) (by decide)
  · intro v' w' ho' hg _
    have kept : ∀ k, k < wr.heap.size → some k ≠ v.ownBlock → w'.heap[k]? = wr.heap[k]? := fun k hk hn => (hg.block k (by rw [World.size_alloc]; omega) hn).trans (Below.heap_alloc wr _ k hk)
    refine h v' w' ho' ?_ kept
    have hA := (Below.refl B wr).alloc hB (.cells cs e)
    refine hA.trans ⟨hg.os, hg.tape, hg.output, hg.size, fun k hk => hg.block k (by rw [World.size_alloc]; omega) ?_⟩
    intro hc'
    have := (hown.lt k hc'.symm).1
    omega
end Go.Proofs.YtonmccmeljeopaaDoor

namespace Go.Proofs.YtonmccmeljeopaaDoor
open Go Go.RowKit Go.Maps
open Go.ChangeMaps
set_option linter.unusedSimpArgs false
set_option linter.unusedVariables false

theorem wpQuiet_lookup {P : Program} {ops : Array Oper} {C : World → Prop} {Q : Act → Prop} {a : Act} {o : Oper} {rest : List Oper} (hw : Region.wanted o (yielded ops a.tmps) = true) (t : TypeId) (x k : Operand) (ho : o.op = .lookup t x k false)
    (m kv v : Value) (hx : a.eval x = m) (hk : a.eval k = kv) (hr : ∀ w, C w → (Instr.lookup t m kv false).run P w = .ok v w) (h : wpQuiet P ops C Q rest (a.put o.dst v)) : wpQuiet P ops C Q (o :: rest) a := by
  show if _ then _ else _
  rw [if_pos hw]
  refine ⟨v, fun w hC => ?_, h⟩
  unfold Oper.quietAt execOp
  simp only [ho, hx, hk, Sem.run_bind, hr w hC, Result.andThen_ok]
  exact ⟨rfl, rfl⟩
theorem wpList_mapEntry {P : Program} {ops : Array Oper} {rest : List Oper} {o : Oper} {a : Act} {Q : Exit → Act → World → Prop} (w : World) (hg : o.guard = none) (t : TypeId) (x k : Operand) (ho : o.op = .mapEntry t x k)
    (m kv v : Value) (w' : World) (hx : a.eval x = m) (hk : a.eval k = kv) (hr : (Instr.mapEntry t m kv).run P w = .ok v w') (h : wpList P ops Q rest (a.put o.dst v) w') : wpList P ops Q (o :: rest) a w := by
  refine wpList_plain hg fun K hK => ?_
  unfold Oper.wp
  simp [execOp, ho, hx, hk, hr, Result.andThen]
  exact hK _ _ h
theorem wpList_entryStore {P : Program} {ops : Array Oper} {rest : List Oper} {o : Oper} {a : Act} {Q : Exit → Act → World → Prop} (w : World) (hg : o.guard = none) (t : TypeId) (x s y : Operand) (ho : o.op = .entryStore t x s y)
    (m sv v : Value) (w' : World) (hx : a.eval x = m) (hs : a.eval s = sv) (hy : a.eval y = v) (hr : (Instr.entryStore t m sv v).run P w = .ok () w') (h : wpList P ops Q rest (a.put o.dst undef) w') : wpList P ops Q (o :: rest) a w := by
  refine wpList_plain hg fun K hK => ?_
  unfold Oper.wp
  simp [execOp, ho, hx, hs, hy, hr, Result.andThen]
  exact hK _ _ h
set_option maxRecDepth 100000 in
theorem lawDl : WideMaps.KeyLaw Tryd.prog 23 := deep_law_laid kLaidOut (m := 2) (by omega) rowOfD (by kernel_rfl) wideD
theorem zeroL (u : World) : (zeroValue 47).run Tryd.prog u = .ok (.slice none 0 0) u := by kernel_rfl
theorem strRow : (Tryd.prog.info? 9).map (fun i => (i.size, i.bytes, i.zero.map (·.cells.size))) = some (1, 16, some 1) := by kernel_rfl
theorem noteSt (s t : List UInt8) : ((str s).toList == (str t).toList) = decide (s = t) := by
  rw [ByteArray.toList_eq, ByteArray.toList_eq, str_toList, str_toList, Bool.eq_iff_iff]; simp
theorem RBut.same {T : Nat → Prop} {w w' w'' : World} (h : RBut T w w') (h' : RBut T w' w'') : RBut T w w'' := h.trans h' (fun k hk => .inl hk)
theorem slice_of {base n sz : Nat} {w : World} {t : TypeId} {v : Value} {xs : List Value} (h : w.ownsRow base t sz v (n + 1) xs) : ∃ g c, v = .slice (some ⟨g, 0, none⟩) (n + 1) c := by
  rcases h.2 with ⟨_, h0⟩ | ⟨g, cap, cur, h1, _⟩
  · omega
  · exact ⟨g, cap, h1⟩
theorem RBut.wider {T T' : Nat → Prop} {w w' : World} (h : RBut T w w') (hT : ∀ k, T k → T' k) : RBut T' w w' := ⟨h.os, h.tape, h.output, h.size, fun k hk hn => h.block k hk (fun h1 => hn (hT k h1))⟩
theorem RBut.of_grown {T : Nat → Prop} {w w' : World} {row : Option Nat} (h : w.grownBy w' row) (hT : ∀ k, row = some k → T k) : RBut T w w' := ⟨h.os, h.tape, h.output, h.size, fun k hk hn => h.block k hk (fun e => hn (hT k e.symm))⟩
theorem RBut.of_setBlock {T : Nat → Prop} {w : World} {m : Nat} {es : Array MapEntry} {c : Nat} (h : w.heap[m]? = some (.map es c)) (o : Obj) (hT : T m) : RBut T w (setBlock w m o) := ⟨rfl, rfl, rfl, by simp [setBlock], fun k _ hn => heap_setBlock_other h o (fun e => hn (by rw [e]; exact hT))⟩
theorem RBut.of_setCell {T : Nat → Prop} (w : World) (b j : Nat) (v : Value) (hT : T b) : RBut T w (w.setCell ⟨b, j, none⟩ v) := ⟨rfl, rfl, rfl, by simp, fun k _ hn => heap_setCell_other _ _ _ _ (fun e => hn (by rw [e]; exact hT))⟩
set_option maxHeartbeats 2000000 in
set_option maxRecDepth 100000 in
theorem rnote_calls (b : Nat) (S : Nat → Prop) (ins : List (List UInt8)) (s d : List UInt8) (hd : d.length = 32) (hds : pSum [s] = d) (hs : s.length ≤ maxLen) (hn : ins.length < 1099511627776) (w : World) (hL : RLogAt w b S ins) :
    Calls Tryd.prog 50 #[.pointer (some ⟨b, 0, none⟩), .agg (bc d), .string (str s)] w fun e w' => e = .returned (.tuple #[]) ∧ RStep b S (rnoted s ins) w w' := by
  obtain ⟨base, m, iv, D, val, h⟩ := hL
  have hi0 := digInfo d hd
  have q0 := al1 w (.cells (bc d) 23)
  have b0 := (Below.refl w.heap.size w).alloc (Nat.le_refl _) (.cells (bc d) 23)
  obtain ⟨X, hX⟩ : ∃ X, w.alloc (.cells (bc d) 23) = X := ⟨_, rfl⟩
  rw [hX] at q0 b0
  have HX := hide hX
  have hRX := h.below b0
  obtain ⟨V, hV⟩ : ∃ V, val d = V := ⟨_, rfl⟩
  obtain ⟨G, hG⟩ : ∃ G, grp d ins = G := ⟨_, rfl⟩
  obtain ⟨n, hnn⟩ : ∃ n, G.length = n := ⟨_, rfl⟩
  have hown := hRX.vals d hd
  rw [hV, hG, hnn] at hown
  have hnle : n ≤ ins.length := by rw [← hnn, ← hG]; exact grp_le d ins
  obtain ⟨p, c, hVe, hcell⟩ : ∃ p c, V = .slice p n c ∧ (0 < n → ∃ g o, p = some ⟨g, o, none⟩ ∧ g < X.heap.size ∧ ∀ j, j < n → X.cell? ⟨g, o + j, none⟩ = some (.string (str (G.getD j [])))) := by
    rcases hown.2 with ⟨h1, h2⟩ | ⟨g, cap, cur, h1, _, hg, hc, _, hs, ht⟩
    · exact ⟨none, 0, by rw [h1, h2], fun h3 => by omega⟩
    · refine ⟨_, cap, h1, fun _ => ⟨g, 0, rfl, (Array.getElem?_eq_some_iff.1 hg).1, fun j hj => ?_⟩⟩
      rw [Nat.zero_add, cell_of_row _ _ _ _ _ _ hg]
      have h4 : (G.map fun s => Value.string (str s))[j]? = some (.string (str (G.getD j []))) := by
        rw [List.getElem?_map, List.getD_eq_getElem?_getD, List.getElem?_eq_getElem (by omega)]; rfl
      rw [← ht, List.getElem?_take] at h4
      split at h4
      · simpa using h4
      · cases h4
  have hlook : Hid (∀ W : World, W.heap[m]? = X.heap[m]? → (Instr.lookup 46 (.map (some m)) (.agg (bc d)) false).run Tryd.prog W = .ok (.slice p n c) W) := hide fun W hW => by
    obtain ⟨v0, ps, h1, h2⟩ := (map_at hRX.map hW).lookup lawD Tryd.underlying46 (zeroL W) RV_nil (dKey_is d hd)
    rw [h1, RV_inj h2 (hRX.look d hd) rfl, hV, hVe]
  have HMB : Hid (∀ dd os, (Sort.grow (redrawn X dd) os).heap[m]? = X.heap[m]?) := hide fun dd os => (below_regrown X dd os).block m hRX.map.lt
  have x1 := hRX.obj
  have c0 : ∀ dd os, (Sort.grow (redrawn X dd) os).cell? ⟨b, 1, none⟩ = some (.map (some m)) := fun dd os => by
    rw [cell_of_row _ _ _ _ _ _ (Below.at (below_regrown X dd os) (Array.getElem?_eq_some_iff.1 x1).1 x1)]; rfl
  have r0 : Hid (∀ w', (∃ p : Regrown, w' = Sort.grow (redrawn X p.d) p.os) → w'.heap[w.heap.size]? = some (.cells (bc d) 23 (0, 0))) := fun w' ⟨p, hp⟩ => by rw [hp]; exact Below.at (below_regrown X p.d p.os) (Array.getElem?_eq_some_iff.1 q0).1 q0
  have hq : ∀ i, ((str (G.getD i [])).toList == (str s).toList) = decide (G.getD i [] = s) := fun i => noteSt _ _
  have Hq := hide hq
  have HG := hide hG
  have HN := hide hnn
  have Hcell := hide hcell
  have HVe := hide hVe
  have HR := hide hRX
  have H0 := hide h
  have HB0 := hide b0
  have Q0 := hide q0
  have HDS := hide hds
  have Hs := hide hs
  have Hd := hide hd
  have Hown := hide hown
  have HV := hide hV
  clear hX hds hs hd h hRX x1 q0 b0 hown hcell hVe hG hnn hV hq
  go_enter Tryd.func50, Tryd.ntmps50
  go_wp2_with (rw [unhide HX])
  refine wp_region_below mixed (by kernel_rfl) ?_
  quiet_step (fail)
  quiet_step (fail)
  quiet_step (fail)
  quiet_step (fail)
  refine wpQuiet_load_row rfl 23 (.tmp 4) rfl w.heap.size rfl 23 _ (0, 0) _ (unhide r0) Tryd.underlying23 rfl hi0 ?_
  refine wpQuiet_lookup rfl 46 (.tmp 13) (.tmp 14) rfl (.map (some m)) (.agg (bc d)) (.slice p n c) rfl rfl (fun W ⟨p, hp⟩ => by rw [hp]; exact unhide hlook _ (unhide HMB p.d p.os)) ?_
  quiet_step (fail)
  quiet_step (fail)
  refine wpQuiet_nil ?_
  intro w2 b2
  have hR2 := hide ((unhide HR).below b2)
  have b02 := (unhide HB0).trans (b2.mono (unhide HB0).size)
  have Q2 := hide (Below.at b2 (Array.getElem?_eq_some_iff.1 (unhide Q0)).1 (unhide Q0))
  have HB2 := hide b2
  have HB02 := hide b02
  have hcl2 : Hid (0 < n → ∃ g o, p = some ⟨g, o, none⟩ ∧ ∀ j, j < n → w2.cell? ⟨g, o + j, none⟩ = some (.string (str (G.getD j [])))) := hide fun h3 => by
    obtain ⟨g, o, h4, h5, h6⟩ := unhide Hcell h3
    exact ⟨g, o, h4, fun j hj => by rw [(unhide HB2).cell (p := ⟨g, o + j, none⟩) h5]; exact h6 j hj⟩
  clear c0 r0 hlook HMB b2 b02 Hcell
  go_wp2
  go_loopw [17] (fun i wr => ∃ k : Nat, k ≤ n ∧ i = .int .i64 (k : Int) ∧ wr = w2 ∧ Hid (∀ j, j < k → G.getD j [] ≠ s)) (fun i _ => n - (intOf i).toNat)
  case atStart => exact ⟨0, by omega, rfl, rfl, hide fun j hj => absurd hj (Nat.not_lt_zero _)⟩
  case round =>
    obtain ⟨k, hk, rfl, hwr, hno⟩ := hrel
    have hwr2 := hwr.symm
    subst hwr2
    clear hwr
    by_cases hlt : k < n
    · have hd1 : decide (k < n) = true := by simpa using hlt
      have bk : (k : Int) < (n : Int) := by omega
      obtain ⟨g, o, rfl, hc⟩ := unhide hcl2 (by omega)
      have c := hc k hlt
      have hqk := unhide Hq k
      have hmem : Hid (G.getD k [] ∈ G) := hide (by rw [List.getD_eq_getElem?_getD, List.getElem?_eq_getElem (by rw [unhide HN]; exact hlt)]; exact List.getElem_mem _)
      have hrec : Hid (G.getD k [] ≠ s → ∀ j, j < k + 1 → G.getD j [] ≠ s) := hide fun h1 j hj => by
        by_cases e : j = k
        · rw [e]; exact h1
        · exact unhide hno j (by omega)
      generalize G.getD k [] = E at *
      clear hc
      by_cases hE : E = s
      · have hq1 : decide (E = s) = true := by simpa using hE
        rw [hq1] at hqk
        have HE := hide hE
        clear hE hq1
        go_wp2
        refine bodyPost_ret (results_none rfl _ _ _) rfl ⟨rfl, ?_⟩
        have hin : s ∈ ins := by
          rw [← mem_grp, unhide HDS, unhide HG, ← unhide HE]; exact unhide hmem
        rw [rnoted, if_pos hin]
        exact RStep.same ⟨_, _, _, _, _, unhide H0⟩ (unhide HB02)
      · have hq1 : decide (E = s) = false := by simpa using hE
        rw [hq1] at hqk
        have HE := hide hE
        clear hE hq1
        go_wp2
        go_roundw
        case rel => exact ⟨k + 1, by omega, by go_num, by first | rfl | trivial, hide (unhide hrec (unhide HE))⟩
        case measure => simp [intOf]; omega
    · have hd1 : decide (k < n) = false := by simpa using hlt
      have hnin : Hid (s ∉ ins) := hide fun hin => by
        rw [← mem_grp, unhide HDS, unhide HG] at hin
        obtain ⟨j, hj, e⟩ := List.getElem_of_mem hin
        refine unhide hno j (by have := unhide HN; omega) ?_
        rw [List.getD_eq_getElem?_getD, List.getElem?_eq_getElem hj]; exact e
      have HLT := hide hlt
      clear hno hd1 hlt
      go_upto_region 7 with fail
      -- what the region finds
      have F := unhide hR2
      have F1 := F.obj
      have FQ := unhide Q2
      have hbm := F.ne
      have hmN : m ≠ w.heap.size := by have := (unhide H0).old m (unhide H0).mym; omega
      have hbN : b ≠ w.heap.size := by have := (unhide H0).old b (unhide H0).myb; omega
      obtain ⟨SS, hSS⟩ : ∃ SS : World → Prop, SS = fun W => W.heap[b]? = some (.cells #[iv, .map (some m)] 49 (0, 0)) ∧ W.heap[w.heap.size]? = some (.cells (bc d) 23 (0, 0)) := ⟨_, rfl⟩
      have HSS : Hid (∀ W : World, SS W ↔ (W.heap[b]? = some (.cells #[iv, .map (some m)] 49 (0, 0)) ∧ W.heap[w.heap.size]? = some (.cells (bc d) 23 (0, 0)))) := hide fun W => by rw [hSS]
      clear hSS
      have hr0 : Hid (∀ W, SS W → W.heap[w.heap.size]? = some (.cells (bc d) 23 (0, 0))) := hide fun W h => ((unhide HSS W).1 h).2
      have hr1 : Hid (∀ W, SS W → W.cell? ⟨b, 1, none⟩ = some (.map (some m))) := hide fun W h => by rw [cell_of_row _ _ _ _ _ _ ((unhide HSS W).1 h).1]; rfl
      have hS0 : SS ({ w2 with drawn := w2.drawn + 1 } : World) := (unhide HSS _).2 ⟨F1, FQ⟩
      have HF := hide F
      have HMN := hide hmN
      have HBN := hide hbN
      have HBM := hide hbm
      clear F F1 FQ hbm hmN hbN
      refine wp_region_held (S := SS) mixed ?_
      refine wpAnyH_take (i := 0) (v := .pointer (some ⟨b, 0, none⟩)) rfl (by kernel_rfl) (by kernel_rfl) (by kernel_rfl) (fun _ _ _ h => h) (.inl ⟨rfl, fun _ _ => rfl⟩) hS0 ?_
      refine wpAnyH_take (i := 1) (v := .pointer (some ⟨b, 0, none⟩)) rfl (by kernel_rfl) (by kernel_rfl) (by kernel_rfl) (fun _ _ _ h => h) (.inl ⟨rfl, fun _ _ => rfl⟩) hS0 ?_
      go_simp
      refine wpAnyH_take (i := 2) (v := .pointer (some ⟨b, 1, none⟩)) rfl (by kernel_rfl) (by kernel_rfl) (by kernel_rfl) (fun _ _ _ h => h) (.inl ⟨rfl, fun _ _ => rfl⟩) hS0 ?_
      refine wpAnyH_take (i := 3) (v := .map (some m)) rfl (by kernel_rfl) (by kernel_rfl) (by kernel_rfl) (fun _ _ _ h => h) (.inl ⟨rfl, fun W hW => by have c2 := unhide hr1 W hW; go_simp⟩) hS0 ?_
      go_simp
      refine wpAnyH_take (i := 4) (v := .agg (bc d)) rfl (by kernel_rfl) (by kernel_rfl) (by kernel_rfl) (fun _ _ _ h => h) (yields_row rfl 23 (.tmp 4) rfl w.heap.size rfl 23 (bc d) (0, 0) _ (unhide hr0) Tryd.underlying23 rfl hi0) hS0 ?_
      refine wpAnyH_take (i := 5) (v := .string (str s)) rfl (by kernel_rfl) (by kernel_rfl) (by kernel_rfl) (fun _ _ _ h => h) (.inl ⟨rfl, fun _ _ => rfl⟩) hS0 ?_
      go_simp
      obtain ⟨ti, tz, hie, htz, e1, e2, e3⟩ := rowInfo strRow
      obtain ⟨T, hT⟩ : ∃ T : Nat → Prop, T = fun k => k = b ∨ k = m ∨ iv.ownBlock = some k ∨ V.ownBlock = some k := ⟨_, rfl⟩
      have hTb : T b := by rw [hT]; exact .inl rfl
      have hTm : T m := by rw [hT]; exact .inr (.inl rfl)
      have hTi : ∀ k, iv.ownBlock = some k → T k := by rw [hT]; exact fun k h => .inr (.inr (.inl h))
      have hTv : ∀ k, V.ownBlock = some k → T k := by rw [hT]; exact fun k h => .inr (.inr (.inr h))
      have HT := hide hT
      obtain ⟨U, hU⟩ : ∃ U : Nat → Prop, U = fun k => k = m ∨ V.ownBlock = some k := ⟨_, rfl⟩
      have hUm : U m := by rw [hU]; exact .inl rfl
      have hUv : ∀ k, V.ownBlock = some k → U k := by rw [hU]; exact fun k h => .inr h
      have hUT : Hid (∀ k, U k → T k) := hide (by rw [hU]; exact fun k h => h.elim (fun h => by rw [h]; exact hTm) (hTv k))
      have hUi : Hid (∀ k, iv.ownBlock = some k → ¬ U k) := hide (by rw [hU]; exact fun k hk h => h.elim (fun h => by rw [h] at hk; have := (unhide HF).lom; have := ((unhide HF).inp.lt m hk).1; omega) (fun h => (unhide HF).away d (unhide Hd) k (by rw [unhide HV]; exact h) hk))
      have hF := unhide HF
      have hvals : w2.ownsRow base 9 1 V n (G.map fun s => .string (str s)) := by have := hF.vals d (unhide Hd); rw [unhide HV, unhide HG, unhide HN] at this; exact this
      have hinp := hF.inp
      have hmlt := hF.map.lt
      have hib : ∀ k, iv.ownBlock = some k → k ≠ b ∧ k ≠ m ∧ k < w2.heap.size := fun k e => ⟨by have := (hinp.lt k e).1; have := hF.lob; omega, by have := (hinp.lt k e).1; have := hF.lom; omega, (hinp.lt k e).2⟩
      have hvb : ∀ k, V.ownBlock = some k → k ≠ b ∧ k ≠ m ∧ k < w2.heap.size := fun k e => ⟨by have := (hvals.lt k e).1; have := hF.lob; omega, by have := (hvals.lt k e).1; have := hF.lom; omega, (hvals.lt k e).2⟩
      have hvi : ∀ k, V.ownBlock = some k → iv.ownBlock ≠ some k := fun k e => hF.away d (unhide Hd) k (by rw [unhide HV]; exact e)
      have hblt : b < w2.heap.size := (Array.getElem?_eq_some_iff.1 hF.obj).1
      have hNlt : w.heap.size < w2.heap.size := (Array.getElem?_eq_some_iff.1 (unhide Q2)).1
      have hNT : ¬ T w.heap.size := by
        rw [hT]
        rintro (h1 | h1 | h1 | h1)
        · exact unhide HBN h1.symm
        · exact unhide HMN h1.symm
        · have := (unhide H0).old _ ((unhide H0).myi _ h1); omega
        · have := (unhide H0).old _ ((unhide H0).myv d (unhide Hd) _ (by rw [unhide HV]; exact h1)); omega
      have hbs := hF.bs
      have hkey := dKey_is d (unhide Hd)
      have HVB := hide hvb
      have HIB := hide hib
      have HVI := hide hvi
      have HVV := hide hvals
      have HINP := hide hinp
      have HTI := hide hTi
      have HTV := hide hUv
      have HNT := hide (fun h => hNT (unhide hUT _ h))
      have HTM := hide hUm
      have HTB := hide hTb
      clear hF hT hU hUm hUv hTb hTm hTi hTv hib hvb hvi hNT hinp hvals
      refine wpAnyH_one 6 _ (by kernel_rfl) rfl ?_
      · go_wp2
        obtain ⟨Y, hY⟩ : ∃ Y, (w2.alloc (.cells #[.string (str s)] 9)).drew = Y := ⟨_, rfl⟩
        have yb0 := (Below.refl w2.heap.size w2).alloc (Nat.le_refl _) (.cells #[.string (str s)] 9)
        have yb : Below w2.heap.size w2 Y := by rw [← hY]; exact ⟨yb0.os, yb0.tape, yb0.output, yb0.size, yb0.block⟩
        have yq : Y.heap[w2.heap.size]? = some (.cells #[.string (str s)] 9 (0, 0)) := by rw [← hY]; exact al1 w2 _
        have ym : Y.heap[m]? = w2.heap[m]? := yb.block m hmlt
        have y1 : Y.heap[b]? = some (.cells #[iv, .map (some m)] 49 (0, 0)) := (yb.block b hblt).trans (unhide HF).obj
        have y2 : Y.heap[w.heap.size]? = some (.cells (bc d) 23 (0, 0)) := (yb.block _ hNlt).trans (unhide Q2)
        have yz : w2.heap.size < Y.heap.size := (Array.getElem?_eq_some_iff.1 yq).1
        rw [hY]
        refine ⟨(unhide HSS _).2 ⟨y1, y2⟩, ?_⟩
        clear hY
        have hmY : Hid (Y.ownsMap Tryd.prog 23 RV m ins.length D) := hide (map_at (unhide HF).map ym)
        obtain ⟨es0, cl0, hm0⟩ : ∃ es c, Y.heap[m]? = some (.map es c) := by obtain ⟨es, c, h1, _⟩ := unhide hmY; exact ⟨es, c, h1⟩
        obtain ⟨v0, st, es1, c1, hr, hv0, hst⟩ := map_entry (unhide hmY) lawDl Tryd.underlying46 zeroL RV_nil (by unfold maxLen; omega) hkey
        have hv0V : V = v0 := by
          obtain ⟨ps, hv0⟩ := hv0
          rw [RV_inj hv0 ((unhide HF).look d (unhide Hd)) rfl, unhide HV]
        subst hv0V
        clear hv0
        have HST := hide hst
        clear hst
        refine wpAnyH_one 7 _ (by kernel_rfl) rfl ?_
        go_wp2_with (refine wpList_mapEntry _ rfl 46 (.tmp 28) (.tmp 29) rfl (.map (some m)) (.agg (bc d)) _ _ rfl rfl hr ?_)
        have zm : (setBlock Y m (.map es1 c1)).heap[m]? = some (.map es1 c1) := heap_setBlock_same hm0 _
        have zb : (setBlock Y m (.map es1 c1)).heap[b]? = some (.cells #[iv, .map (some m)] 49 (0, 0)) := (heap_setBlock_other hm0 _ (unhide HBM)).trans y1
        have zt : RBut U w2 (setBlock Y m (.map es1 c1)) := (RBut.of_below yb).same (RBut.of_setBlock hm0 _ (unhide HTM))
        have zq : (setBlock Y m (.map es1 c1)).heap[w2.heap.size]? = some (.cells #[.string (str s)] 9 (0, 0)) := (heap_setBlock_other hm0 _ (by omega)).trans yq
        have zV : ∀ k, k < w2.heap.size → k ≠ m → (setBlock Y m (.map es1 c1)).heap[k]? = w2.heap[k]? := fun k hk hne => (heap_setBlock_other hm0 _ hne).trans (yb.block k hk)
        have zz : w2.heap.size < (setBlock Y m (.map es1 c1)).heap.size := (Array.getElem?_eq_some_iff.1 zq).1
        have hS2 := (unhide HSS _).2 ⟨zb, ((zV _ hNlt (fun e => unhide HMN e.symm)).trans (unhide Q2))⟩
        refine ⟨hS2, ?_⟩
        obtain ⟨Z, hZ⟩ : ∃ x, setBlock Y m (.map es1 c1) = x := ⟨_, rfl⟩
        rw [hZ] at zm zb zt zq zV zz hS2
        rw [hZ]
        clear hZ hr hm0 hmY yb yq ym y1 y2 yz
        refine wpAnyH_take (i := 8) (v := V) rfl (by kernel_rfl) (by kernel_rfl) (by kernel_rfl) (fun _ _ _ h => h) (.inl ⟨rfl, fun _ _ => rfl⟩) hS2 ?_
        refine wpAnyH_take (i := 10) (v := st) rfl (by kernel_rfl) (by kernel_rfl) (by kernel_rfl) (fun _ _ _ h => h) (.inl ⟨rfl, fun _ _ => rfl⟩) hS2 ?_
        go_simp
        have hvZ : Z.ownsRow base 9 1 V n (G.map fun s => .string (str s)) := owns_at (unhide HVV) (fun k e => (zV k (unhide HVB k e).2.2 (unhide HVB k e).2.1))
        have hnews : ∀ j u, [Value.string (str s)][j]? = some u → Z.cell? ((⟨w2.heap.size, 0, none⟩ : Addr).add j) = some u := by
          intro j u hj
          have hj0 : j = 0 := by
            have := (List.getElem?_eq_some_iff.1 hj).1; simp at this; omega
          subst hj0
          simp at hj
          subst hj
          rw [show (⟨w2.heap.size, 0, none⟩ : Addr).add 0 = ⟨w2.heap.size, 0, none⟩ by simp [Addr.add], cell_of_row _ _ _ _ _ _ zq]; rfl
        refine wpAnyH_one 9 _ (by kernel_rfl) rfl ?_
        refine wpList_append_own_at _ rfl (.tmp 30) (.tmp 32) 47 rfl base 9 ti tz 1 16 Tryd.underlying47 hie htz e1 e2 e3 (by decide) V n _ rfl hvZ ⟨w2.heap.size, 0, none⟩ 1 1 [.string (str s)] rfl rfl hnews (by simp [Value.oneCell']) (by unfold maxLen; omega) (by omega) (by have := zz; omega) ?_
        intro v' W3 ho3 hg3 hn3 ha3
        go_wp2
        have h3m : W3.heap[m]? = some (.map es1 c1) := (hg3.block m (by have := zz; omega) (fun e => ((unhide HVB) m e.symm).2.1 rfl)).trans zm
        have t3 : RBut U w2 W3 := zt.same (RBut.of_grown hg3 (unhide HTV))
        have h3b : W3.heap[b]? = some (.cells #[iv, .map (some m)] 49 (0, 0)) := (hg3.block b (by have := zz; omega) (fun e => ((unhide HVB) b e.symm).1 rfl)).trans zb
        have h3N : W3.heap[w.heap.size]? = some (.cells (bc d) 23 (0, 0)) := (t3.block _ hNlt (unhide HNT)).trans (unhide Q2)
        refine ⟨(unhide HSS _).2 ⟨h3b, h3N⟩, ?_⟩
        obtain ⟨dv, hdv⟩ := owns_RV ho3
        obtain ⟨es', c', hr4, hmap4⟩ := unhide HST W3 v' dv hdv h3m
        refine wpAnyH_one 11 _ (by kernel_rfl) rfl ?_
        go_wp2_with (refine wpList_entryStore _ rfl 46 (.tmp 28) (.tmp 35) (.tmp 34) rfl (.map (some m)) st v' _ rfl rfl rfl hr4 ?_)
        have h4m : (setBlock W3 m (.map es' c')).heap[m]? = some (.map es' c') := heap_setBlock_same h3m _
        have t4 : RBut U w2 (setBlock W3 m (.map es' c')) := t3.same (RBut.of_setBlock h3m _ (unhide HTM))
        have h4b : (setBlock W3 m (.map es' c')).heap[b]? = some (.cells #[iv, .map (some m)] 49 (0, 0)) := (heap_setBlock_other h3m _ (unhide HBM)).trans h3b
        have hvm : ∀ k, v'.ownBlock = some k → k ≠ m := fun k e => by have := (ho3.lt k e).1; have := (unhide HF).lom; omega
        have ho4 : (setBlock W3 m (.map es' c')).ownsRow base 9 1 v' (n + 1) ((G.map fun s => .string (str s)) ++ [.string (str s)]) := owns_at ho3 (fun k e => heap_setBlock_other h3m _ (hvm k e))
        have hvl : v'.ownBlock = V.ownBlock ∨ ∃ g, v'.ownBlock = some g ∧ w2.heap.size ≤ g := ha3.imp_right (fun e => ⟨_, e, by have := zz; omega⟩)
        refine ⟨(unhide HSS _).2 ⟨h4b, (t4.block _ hNlt (unhide HNT)).trans (unhide Q2)⟩, ?_⟩
        obtain ⟨W4, hW4⟩ : ∃ x, setBlock W3 m (.map es' c') = x := ⟨_, rfl⟩
        rw [hW4] at h4m t4 h4b ho4
        rw [hW4]
        have HM4 := hide hmap4
        have HO4 := hide ho4
        have HVL := hide hvl
        have HT4 := hide t4
        have HDV := hide hdv
        have hi4 : W4.ownsRow base 9 1 iv ins.length (ins.map fun s => .string (str s)) := owns_at (unhide HINP) (fun k e => ((unhide HT4).block k (unhide HIB k e).2.2 (unhide hUi k e)))
        have c4 : W4.cell? ⟨b, 0, none⟩ = some iv := by rw [cell_of_row _ _ _ _ _ _ h4b]; rfl
        have z4 : w2.heap.size ≤ W4.heap.size := t4.size
        have H4M := hide h4m
        have H4B := hide h4b
        clear hr4 hmap4 ho4 hvl t4 hdv h3m t3 h3b h3N ho3 hg3 hn3 ha3 hvm h4m h4b hW4 zt zm zb zq zV hvZ hnews
        refine wpAnyH_done (by kernel_rfl) ?_ _
        go_wp2_with (at_builtin; refine wpList_append_own_at _ rfl (.tmp 40) (.tmp 42) 47 rfl base 9 ti tz 1 16 Tryd.underlying47 hie htz e1 e2 e3 (by decide) iv ins.length _ rfl (hi4.alloc _) ⟨W4.heap.size, 0, none⟩ 1 1 [.string (str s)] rfl rfl (cell_one_new _ _ _) (by simp [Value.oneCell']) (by unfold maxLen; omega) (by omega) (by simp; omega) ?_; intro iv' W5 ho5 hg5 hn5 ha5; obtain ⟨g5, cc5, hiv5⟩ : ∃ g c, iv' = .slice (some ⟨g, 0, none⟩) (ins.length + 1) c := (slice_of ho5); subst hiv5; have h5b := (hg5.block b (by simp; omega) (fun e => ((unhide HIB) b e.symm).1 rfl)).trans ((heap_alloc_old W4 _ (by omega)).trans (unhide H4B)); have f5 := frozen_of_row W5 b 0 _ _ h5b; have c5 : W5.cell? ⟨b, 0, none⟩ = some iv := by (rw [cell_of_row _ _ _ _ _ _ h5b]; rfl))
        refine bodyPost_end (results_none rfl _ _ _) rfl ⟨rfl, ?_⟩
        obtain ⟨iv', hivE⟩ : ∃ x, Value.slice (some ⟨g5, 0, none⟩) (ins.length + 1) cc5 = x := ⟨_, rfl⟩
        rw [hivE] at ho5 hn5 ha5 ⊢
        have kb5 : ∀ k, k ≠ b → (W5.setCell ⟨b, 0, none⟩ iv').heap[k]? = W5.heap[k]? := fun k hk => heap_setCell_other _ _ _ _ hk
        have t5 : RBut T w2 (W5.setCell ⟨b, 0, none⟩ iv') := ((((unhide HT4).wider (unhide hUT)).same (RBut.of_below ((Below.refl _ W4).alloc (Nat.le_refl _) _))).same (RBut.of_grown hg5 (unhide HTI))).same (RBut.of_setCell _ _ _ _ (unhide HTB))
        have n5 : ∀ k, k < W4.heap.size → iv.ownBlock ≠ some k → W5.heap[k]? = W4.heap[k]? := fun k hk hne => (hg5.block k (by simp; omega) (fun e => hne e.symm)).trans (heap_alloc_old W4 _ hk)
        have i5b : ∀ k, iv'.ownBlock = some k → k ≠ b := fun k e => by have := (ho5.lt k e).1; have := (unhide HF).lob; omega
        have v4b : ∀ k, v'.ownBlock = some k → k ≠ b ∧ k < W4.heap.size := fun k e => ⟨by have := ((unhide HO4).lt k e).1; have := (unhide HF).lob; omega, ((unhide HO4).lt k e).2⟩
        have vni : ∀ k, v'.ownBlock = some k → iv.ownBlock ≠ some k := fun k e h1 => by
          rcases unhide HVL with h2 | ⟨g, h2, h3⟩
          · exact unhide HVI k (h2.symm.trans e) h1
          · have := (unhide HIB k h1).2.2
            rw [h2] at e
            have := Option.some.inj e
            omega
        have him : iv.ownBlock ≠ some m := fun e => (unhide HIB m e).2.1 rfl
        obtain ⟨S', hR', hS'⟩ := (unhide HF).add (w' := W5.setCell ⟨b, 0, none⟩ iv') s d (unhide Hd) (unhide HDS) iv' v' dv t5.size (heap_setCell_same _ _ _ _ _ _ h5b)
          (owns_at ho5 (fun k e => kb5 k (i5b k e))) (ha5.imp_right (fun e => ⟨_, e, by simp; omega⟩))
          (unhide HM4 _ (by rw [kb5 m (Ne.symm (unhide HBM)), n5 m (by omega) him]; exact unhide H4M)) (unhide HDV)
          (by rw [unhide HG, unhide HN]; exact owns_at (unhide HO4) (fun k e => by rw [kb5 k (v4b k e).1, n5 k (v4b k e).2 (vni k e)]))
          (by rw [unhide HV]; exact unhide HVL)
          (fun k e h1 => by
            rcases ha5 with h2 | h2
            · exact vni k e (h2.symm.trans h1)
            · rw [h2] at h1
              have h9 := Option.some.inj h1
              have h8 := (v4b k e).2
              rw [World.size_alloc] at h9
              omega)
          (fun k hk h1 h2 h3 h4 => t5.block k hk (by rw [unhide HT]; rw [unhide HV] at h4; exact fun h => h.elim h1 (fun h => h.elim h2 (fun h => h.elim h3 h4))))
        rw [rnoted, if_neg (unhide hnin)]
        have hb02 := unhide HB02
        refine ⟨S', ⟨_, _, _, _, _, hR'⟩, ⟨t5.os.trans hb02.os, t5.tape.trans hb02.tape, t5.output.trans hb02.output, Nat.le_trans hb02.size t5.size, fun k hk hn => ?_⟩, fun k hk => (hS' k hk).imp_right (Nat.le_trans hb02.size)⟩
        have h0 := unhide H0
        exact (t5.block k (Nat.lt_of_lt_of_le hk hb02.size) (by rw [unhide HT]; exact fun h => h.elim (fun h => hn (by rw [h]; exact h0.myb)) (fun h => h.elim (fun h => hn (by rw [h]; exact h0.mym)) (fun h => h.elim (fun h => hn (h0.myi k h)) (fun h => hn (h0.myv d (unhide Hd) k (by rw [unhide HV]; exact h))))))).trans (hb02.block k hk)
end Go.Proofs.YtonmccmeljeopaaDoor

namespace Go.Proofs.YtonmccmeljeopaaDoor
open Go Go.RowKit Go.Maps
set_option linter.unusedSimpArgs false
set_option linter.unusedVariables false

set_option maxHeartbeats 1000000 in
set_option maxRecDepth 100000 in
theorem rnewLog_calls (w : World) : Calls Tryd.prog 5 #[] w fun e w' => e = .returned (.pointer (some ⟨w.heap.size + 1, 0, none⟩)) ∧ RLogAt w' (w.heap.size + 1) (fun k => w.heap.size ≤ k ∧ k < w.heap.size + 2) [] ∧ Below w.heap.size w w' ∧ w'.heap.size = w.heap.size + 2 := by
  go_enter Tryd.func5, Tryd.ntmps5
  have hmm := @run_makeMap Tryd.prog
  go_wp2
  go_ret
  have hm := (World.ownsMap_made (H := Unit) w Tryd.prog 23 RV).alloc (.cells #[.slice none 0 0, .map (some w.heap.size)] 49)
  have q := al1 (w.alloc (.map #[] 0)) (.cells #[.slice none 0 0, .map (some w.heap.size)] 49)
  rw [World.size_alloc] at q
  have zz : ((w.alloc (.map #[] 0)).alloc (.cells #[.slice none 0 0, .map (some w.heap.size)] 49)).heap.size = w.heap.size + 2 := by simp
  have hb : Below w.heap.size w ((w.alloc (.map #[] 0)).alloc (.cells #[.slice none 0 0, .map (some w.heap.size)] 49)) := ((Below.refl _ w).alloc (Nat.le_refl _) _).alloc (by simp) _
  refine ⟨rfl, ⟨w.heap.size + 2, w.heap.size, .slice none 0 0, .map [], fun _ => .slice none 0 0, q, by omega, by omega, by omega, by omega, World.ownsRow_nil _ _ _ _, hm, ?_, ?_, ?_, ?_, ?_, rfl, ⟨by omega, by omega⟩, ⟨by omega, by omega⟩, ?_, ?_, ?_⟩, hb, zz⟩
  · intro d hd
    rw [atKey_of_not_has (has_eq [] _)]; rfl
  · intro d hd; exact World.ownsRow_nil _ _ _ _
  · intro d e _ _ _ k h; simp [Value.ownBlock] at h
  · intro d _ k h; simp [Value.ownBlock] at h
  · intro d hd; rfl
  · intro k h; simp [Value.ownBlock] at h
  · intro d _ k h; simp [Value.ownBlock] at h
  · intro k h; rw [zz]; exact h.2
set_option maxHeartbeats 2000000 in
set_option maxRecDepth 100000 in
theorem rofQ_calls (dom : Nat) (hd : dom < 256) (parts : List (List UInt8)) (hp : ∀ p ∈ parts, p.length ≤ 100000000) (hn : parts.length ≤ 1000) (a : Option Addr) (cap : Nat) (b : Nat) (S : Nat → Prop) (ins : List (List UInt8)) (hin : ins.length < 1099511627776) (w : World) (hs : StrsAt w a parts) (hL : RLogAt w b S ins) :
    Calls Tryd.prog 36 #[.pointer (some ⟨b, 0, none⟩), .int .u8 (dom : Int), .slice a parts.length cap] w fun e w' => e = .returned (.agg (bc (pOf dom parts))) ∧ RStep b S (rnoted (pInput dom parts) ins) w w' := by
  have ci := fun w hs => rinput_calls dom hd parts hp hn a cap w hs
  have hil := pInput_len dom parts hp hn
  have hol := pOf_length dom parts
  have cs := fun w => rsum_calls (pInput dom parts) (by omega) w
  have e : pSum [pInput dom parts] = pOf dom parts := rfl
  have cn := fun w hL => rnote_calls b S ins (pInput dom parts) (pOf dom parts) hol e (by unfold maxLen; omega) hin w hL
  rw [e] at cs
  have hi1 := digInfo _ hol
  have hz1 := zeroSize _ hol
  have ho1 : (bc (pOf dom parts)).all (·.oneCell') = true := bc_oneCell _
  generalize pInput dom parts = I at *
  generalize pOf dom parts = D at *
  have Ci := hide ci
  have Cs := hide cs
  have Cn := hide cn
  have HS := hide hs
  have HL := hide hL
  clear ci cs cn hs hp e hL
  go_enter Tryd.func36, Tryd.ntmps36
  go_wp2_with fail
  have hb0 : Below w.heap.size w (w.alloc (.cells (bc (List.replicate 32 0)) 23)) := (Below.refl _ w).alloc (Nat.le_refl _) _
  refine (unhide Ci _ ((unhide HS).below hb0 (Nat.le_refl _))).mono ?_
  rintro e w1 ⟨rfl, b1⟩
  have q0 : w1.heap[w.heap.size]? = some (.cells (bc (List.replicate 32 0)) 23 (0, 0)) := Below.at b1 (by simp) (al1 _ _)
  have hb1 : Below w.heap.size w w1 := hb0.trans (b1.mono (by simp))
  have z1 : w.heap.size < w1.heap.size := by have := b1.size; simp at this; omega
  clear hb0 b1
  go_wp2_with fail
  refine (unhide Cs _).mono ?_
  rintro e w2 ⟨rfl, b2⟩
  have q0' := Below.at b2 (by omega) q0
  have hb2 : Below w.heap.size w w2 := hb1.trans (b2.mono (by omega))
  have z2 : w.heap.size < w2.heap.size := Nat.lt_of_lt_of_le z1 b2.size
  clear hb1 b2 q0 Cs Ci
  go_wp2_with (first
    | (refine wpList_store_row rfl 23 (.tmp 8) (.tmp 13) rfl w2.heap.size _ rfl rfl 23 _ (al1 _ _) hi1 hz1 ho1 ?_)
    | (refine wpList_load_row rfl 23 (.tmp 8) rfl w2.heap.size rfl 23 _ (0, 0) _ (setRow_heap _ _ _ (bc D) _ _ (al1 w2 (.cells (bc (List.replicate 32 0)) 23))) Tryd.underlying23 rfl hi1 ?_))
  have q8 := setRow_heap _ _ _ (bc D) _ _ (al1 w2 (.cells (bc (List.replicate 32 0)) 23))
  have q9 := (setRow_other (w2.alloc (.cells (bc (List.replicate 32 0)) 23)) w2.heap.size w.heap.size (bc D) (by omega)).trans ((Below.heap_alloc w2 _ _ z2).trans q0')
  have hb3 := below_setRow (hb2.alloc (by omega) (.cells (bc (List.replicate 32 0)) 23)) (Nat.le_of_lt z2) (bc D)
  have z3 : w2.heap.size < ((w2.alloc (.cells (bc (List.replicate 32 0)) 23)).setRow w2.heap.size (bc D)).heap.size := by rw [setRow_size]; simp
  have HB3 := hide hb3
  have Z3 := hide z3
  refine (unhide Cn _ ((unhide HL).below hb3)).mono ?_
  rintro e w4 ⟨rfl, hst⟩
  have HST := hide hst
  have HOLD := hide (unhide HL).old
  obtain ⟨S', k1, k2, k3⟩ := hst
  have q8' := (k2.block _ z3 (fun h => by have := unhide HOLD _ h; omega)).trans q8
  have q9' := (k2.block _ (by omega) (fun h => by have := unhide HOLD _ h; omega)).trans q9
  clear q8 q9 hb3 k1 k2 k3 z3
  go_wp2_with (first
    | (refine wpList_load_row rfl 23 (.tmp 8) rfl w2.heap.size rfl 23 _ (0, 0) _ q8' Tryd.underlying23 rfl hi1 ?_)
    | (refine wpList_store_row rfl 23 (.tmp 6) (.tmp 18) rfl w.heap.size _ rfl rfl 23 _ q9' hi1 hz1 ho1 ?_))
  exact bodyPost_ret (results_cell_row rfl _ _ w.heap.size _ _ _ _ rfl (setRow_heap _ _ _ _ _ _ q9') Tryd.underlying23 rfl hi1) rfl ⟨rfl, setRow_step (unhide HB3) (unhide HST) (unhide HOLD) w.heap.size (Nat.le_refl _) (by have := unhide Z3; omega) _⟩
set_option maxHeartbeats 1000000 in
set_option maxRecDepth 100000 in
theorem rclash_calls (b : Nat) (S : Nat → Prop) (ins : List (List UInt8)) (w : World) (hL : RLogAt w b S ins) :
    Calls Tryd.prog 13 #[.pointer (some ⟨b, 0, none⟩)] w fun e w' => e = .returned (.bool (decide (cnt ins < ins.length))) ∧ Below w.heap.size w w' := by
  obtain ⟨base, m, iv, D, val, h⟩ := hL
  obtain ⟨p, c, hiv⟩ : ∃ p c, iv = .slice p ins.length c := by
    rcases h.inp.2 with ⟨h1, h2⟩ | ⟨g, cap, cur, h1, _⟩
    · exact ⟨none, 0, by rw [h1, h2]⟩
    · exact ⟨_, _, h1⟩
  have l1 := h.obj
  rw [hiv] at l1
  have c0 : ∀ dd os, (Sort.grow (redrawn w dd) os).cell? ⟨b, 0, none⟩ = some (.slice p ins.length c) := fun dd os => by
    rw [cell_of_row _ _ _ _ _ _ (Below.at (below_regrown w dd os) (Array.getElem?_eq_some_iff.1 l1).1 l1)]; rfl
  have c1 : ∀ dd os, (Sort.grow (redrawn w dd) os).cell? ⟨b, 1, none⟩ = some (.map (some m)) := fun dd os => by
    rw [cell_of_row _ _ _ _ _ _ (Below.at (below_regrown w dd os) (Array.getElem?_eq_some_iff.1 l1).1 l1)]; rfl
  have k2 : ∀ dd os ty, (Builtin.len_ #[46] ty #[.map (some m)]).run Tryd.prog (Sort.grow (redrawn w dd) os) = .ok (.int .i64 (cnt ins)) (Sort.grow (redrawn w dd) os) := fun dd os ty => by
    rw [← h.size]; exact (map_at h.map ((below_regrown w dd os).block m h.map.lt)).len Tryd.underlying46 ty
  generalize cnt ins = CN at *
  generalize ins.length = LN at *
  clear h l1 hiv
  go_enter Tryd.func13, Tryd.ntmps13
  go_wp2_with fail
  refine wp_region_below mixed (by kernel_rfl) ?_
  quiet_step (fail)
  quiet_step (fail)
  quiet_step (fail)
  quiet_step (fail)
  quiet_step (fail)
  quiet_step (fail)
  quiet_step (fail)
  quiet_step (fail)
  quiet_step (fail)
  quiet_step (fail)
  quiet_step (fail)
  quiet_step (fail)
  quiet_step (fail)
  quiet_step (fail)
  quiet_step (fail)
  quiet_step (fail)
  refine wpQuiet_nil ?_
  intro w2 b2
  go_wp2
  go_ret
  exact ⟨rfl, b2⟩
end Go.Proofs.YtonmccmeljeopaaDoor

namespace Go.Proofs.YtonmccmeljeopaaDoor
open Go Go.RowKit
set_option linter.unusedSimpArgs false
set_option linter.unusedVariables false

theorem rnoted_le (s : List UInt8) (ins : List (List UInt8)) : (rnoted s ins).length ≤ ins.length + 1 := by
  unfold rnoted; split <;> simp
theorem mem_rnoted (s : List UInt8) (ins : List (List UInt8)) : s ∈ rnoted s ins := by
  unfold rnoted; split
  · assumption
  · simp
theorem mem_rnoted_old (s t : List UInt8) (ins : List (List UInt8)) (h : t ∈ ins) : t ∈ rnoted s ins := by
  unfold rnoted; split
  · exact h
  · simp [h]
theorem RBut.then_below {S : Nat → Prop} {w w' w'' : World} {B : Nat} (h : RBut S w w') (hb : Below B w' w'') (hB : w.heap.size ≤ B) : RBut S w w'' := ⟨hb.os.trans h.os, hb.tape.trans h.tape, hb.output.trans h.output, Nat.le_trans h.size hb.size, fun k hk hn => (hb.block k (Nat.lt_of_lt_of_le hk hB)).trans (h.block k hk hn)⟩
theorem RBut.to_below {S : Nat → Prop} {w w' : World} (h : RBut S w w') (N : Nat) (hS : ∀ k, S k → N ≤ k) (hN : N ≤ w.heap.size) : Below N w w' := ⟨h.os, h.tape, h.output, h.size, fun k hk => h.block k (Nat.lt_of_lt_of_le hk hN) (fun h1 => by have := hS k h1; omega)⟩
/-- What a call that notes leaves: more inputs, C at most, of which P holds. -/
def QS (L : Nat) (S : Nat → Prop) (I : List (List UInt8)) (C : Nat) (P : List (List UInt8) → Prop) (w w' : World) : Prop :=
  ∃ S' I', RLogAt w' L S' I' ∧ RBut S w w' ∧ (∀ k, S' k → S k ∨ w.heap.size ≤ k) ∧ (∀ s ∈ I, s ∈ I') ∧ P I' ∧ I'.length ≤ I.length + C
theorem QS.same {L : Nat} {S : Nat → Prop} {I : List (List UInt8)} {C : Nat} {P : List (List UInt8) → Prop} {w w' : World} (h : RLogAt w L S I) (hb : Below w.heap.size w w') (hP : P I) : QS L S I C P w w' :=
  ⟨S, I, h.below hb, RBut.of_below hb, fun k h => .inl h, fun s h => h, hP, Nat.le_add_right _ _⟩
/-- Where a loop that notes stands: the log, what is kept since X, a row of the call's own beside it. -/
def LS (X : World) (L : Nat) (S : Nat → Prop) (I : List (List UInt8)) (C : Nat) (P : List (List UInt8) → Prop) (own : Option Nat) (W : World) (S' : Nat → Prop) (I' : List (List UInt8)) : Prop :=
  RLogAt W L S' I' ∧ RBut S X W ∧ (∀ k, S' k → S k ∨ X.heap.size ≤ k) ∧ (∀ k, own = some k → ¬ S' k) ∧ (∀ s ∈ I, s ∈ I') ∧ P I' ∧ I'.length ≤ I.length + C
theorem LS.start {X : World} {L : Nat} {S : Nat → Prop} {I : List (List UInt8)} {P : List (List UInt8) → Prop} (h : RLogAt X L S I) (hP : P I) : LS X L S I 0 P none X S I :=
  ⟨h, RBut.refl _ _, fun k h => .inl h, fun k e => (by cases e), fun s h => h, hP, Nat.le_refl _⟩
theorem LS.below {X W W' : World} {L C : Nat} {S S' : Nat → Prop} {I I' : List (List UInt8)} {P : List (List UInt8) → Prop} {own : Option Nat} (h : LS X L S I C P own W S' I') (hb : Below W.heap.size W W') : LS X L S I C P own W' S' I' :=
  ⟨h.1.below hb, h.2.1.then_below hb h.2.1.size, h.2.2.1, h.2.2.2.1, h.2.2.2.2.1, h.2.2.2.2.2.1, h.2.2.2.2.2.2⟩
theorem LS.step {X W W' : World} {L C : Nat} {S S' : Nat → Prop} {I I' : List (List UInt8)} {P P' : List (List UInt8) → Prop} {own : Option Nat} {s : List UInt8} (h : LS X L S I C P own W S' I') (hs : RStep L S' (rnoted s I') W W') (ho : ∀ k, own = some k → k < W.heap.size) (hP : P I' → P' (rnoted s I')) : ∃ S'', LS X L S I (C + 1) P' own W' S'' (rnoted s I') := by
  obtain ⟨h1, h2, h3, h4, h5, h6, h7⟩ := h
  obtain ⟨S'', k1, k2, k3⟩ := hs
  refine ⟨S'', k1, h2.trans k2 h3, fun k hk => (k3 k hk).elim (h3 k) (fun hh => .inr (Nat.le_trans h2.size hh)), fun k e hk => (k3 k hk).elim (h4 k e) (fun hh => by have := ho k e; omega), fun t ht => mem_rnoted_old _ _ _ (h5 t ht), hP h6, ?_⟩
  have := rnoted_le s I'
  omega
theorem LS.grow {X W W' : World} {L C : Nat} {S S' : Nat → Prop} {I I' : List (List UInt8)} {P : List (List UInt8) → Prop} {v v' : Value} (h : LS X L S I C P v.ownBlock W S' I') (hv : ∀ k, v.ownBlock = some k → X.heap.size ≤ k) (hg : W.grownBy W' v.ownBlock) (ha : v'.ownBlock = v.ownBlock ∨ v'.ownBlock = some W.heap.size) : LS X L S I C P v'.ownBlock W' S' I' := by
  obtain ⟨h1, h2, h3, h4, h5, h6, h7⟩ := h
  refine ⟨h1.kept (fun k hk => hg.block k (h1.old k hk) (fun e => h4 k e.symm hk)) hg.size, ⟨hg.os.trans h2.os, hg.tape.trans h2.tape, hg.output.trans h2.output, Nat.le_trans h2.size hg.size, fun k hk hn => (hg.block k (Nat.lt_of_lt_of_le hk h2.size) (fun e => by have := hv k e.symm; omega)).trans (h2.block k hk hn)⟩, h3, fun k e hk => ?_, h5, h6, h7⟩
  rcases ha with ha | ha
  · exact h4 k (ha.symm.trans e) hk
  · rw [ha] at e
    have := Option.some.inj e
    have := h1.old k hk
    omega
theorem LS.forget {X W : World} {L C : Nat} {S S' : Nat → Prop} {I I' : List (List UInt8)} {P : List (List UInt8) → Prop} {own : Option Nat} (h : LS X L S I C P own W S' I') : LS X L S I C P none W S' I' := ⟨h.1, h.2.1, h.2.2.1, fun k e => (by cases e), h.2.2.2.2⟩
theorem LS.at {X W : World} {L C : Nat} {S S' : Nat → Prop} {I I' : List (List UInt8)} {P : List (List UInt8) → Prop} {own : Option Nat} (h : LS X L S I C P own W S' I') {k : Nat} {o : Obj} (hk : X.heap[k]? = some o) (hn : ¬ S k) : W.heap[k]? = some o := (h.2.1.block k (Array.getElem?_eq_some_iff.1 hk).1 hn).trans hk
theorem LS.mono {X W : World} {L C C' : Nat} {S S' : Nat → Prop} {I I' : List (List UInt8)} {P P' : List (List UInt8) → Prop} {own : Option Nat} (h : LS X L S I C P own W S' I') (hC : C ≤ C') (hP : P I' → P' I') : LS X L S I C' P' own W S' I' := ⟨h.1, h.2.1, h.2.2.1, h.2.2.2.1, h.2.2.2.2.1, hP h.2.2.2.2.2.1, Nat.le_trans h.2.2.2.2.2.2 (Nat.add_le_add_left hC _)⟩
/-- At the end: what lies between the call's own start and X may turn. -/
theorem LS.close {w X W W' : World} {L C : Nat} {S S' : Nat → Prop} {I I' : List (List UInt8)} {P : List (List UInt8) → Prop} {own : Option Nat} (h : LS X L S I C P own W S' I') (hb : Below w.heap.size w X) (hS : ∀ k, S k → k < w.heap.size) (ho : W'.os = W.os) (ht : W'.tape = W.tape) (hp : W'.output = W.output) (hs : W.heap.size ≤ W'.heap.size)
    (hk : ∀ k, k < W.heap.size → k < w.heap.size ∨ X.heap.size ≤ k → W'.heap[k]? = W.heap[k]?) : QS L S I C P w W' := by
  obtain ⟨h1, h2, h3, h4, h5, h6, h7⟩ := h
  have hz := hb.size
  refine ⟨S', I', h1.kept (fun k hk' => hk k (h1.old k hk') ((h3 k hk').imp_left (hS k))) hs, ⟨ho.trans (h2.os.trans hb.os), ht.trans (h2.tape.trans hb.tape), hp.trans (h2.output.trans hb.output), Nat.le_trans hz (Nat.le_trans h2.size hs), fun k hk' hn => ?_⟩, fun k hk' => (h3 k hk').imp_right (Nat.le_trans hz), h5, h6, h7⟩
  rw [hk k (Nat.lt_of_lt_of_le hk' (Nat.le_trans hz h2.size)) (.inl hk'), h2.block k (Nat.lt_of_lt_of_le hk' hz) hn, hb.block k hk']
theorem LS.close_row {w X W : World} {L C : Nat} {S S' : Nat → Prop} {I I' : List (List UInt8)} {P : List (List UInt8) → Prop} {own : Option Nat} (h : LS X L S I C P own W S' I') (hb : Below w.heap.size w X) (hS : ∀ k, S k → k < w.heap.size) (N : Nat) (hN : w.heap.size ≤ N) (hN2 : N < X.heap.size) (cs : Array Value) : QS L S I C P w (W.setRow N cs) :=
  h.close hb hS rfl rfl rfl (by rw [setRow_size]; exact Nat.le_refl _) (fun k _ hk => setRow_other _ _ _ _ (by omega))
end Go.Proofs.YtonmccmeljeopaaDoor
