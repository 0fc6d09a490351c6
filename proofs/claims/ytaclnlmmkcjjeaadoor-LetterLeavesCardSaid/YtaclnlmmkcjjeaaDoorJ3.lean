/-
  THE DOCUMENT's LOG: what it is behind one input more.
-/
/-
  A ROW LOADED WHOLE INSIDE A REGION THAT DRAWS ITS ORDER, as a step of the quiet walk. Over whatever program.
-/
/-
  A REGION THAT DRAWS ITS ORDER, STEP BY STEP: each operation that may come up is walked as a list of one. Over whatever program.
-/
/-
  A SLICE OF ROWS THAT THE CALL OWNS: a slice literal of one row; a row appended. Over whatever program.
-/
/-
  WHAT Note DOES TO THE DOCUMENT's LOG.
-/
/-
  WHAT THE DOCUMENT'S OWN ANSWERS OF LAYER 3 RETURN: Big, Text, Bytes.
-/
/-
  WHAT THE REFERENCE'S turn, constants AND First RETURN.
-/
/-
  WHAT THE REFERENCE'S Block RETURNS.
-/
/-
  WHAT THE REFERENCE'S After RETURNS.
-/
import Derived.Test.YtaclnlmmkcjjeaaDoorJ2
import Derived.Test.YtaclnlmmkcjjeaaDoorJ0
import Derived.Laws.Rows
import Derived.OrdersHeld
import Derived.WalkKit
import Derived.Deep.MidRow
import Derived.Laws.Tables
import Derived.Great.BuildSlice
import Derived.Laws.AppendOwn
import Derived.Laws.OwnMore
import Derived.WalkSpells
import Derived.Carry
import Derived.Deep.DeepCutAuto
import Derived.Laws.IdiomStrings
import Derived.Test.YtaclnlmmkcjjeaaDoorJ1
namespace Go.Proofs.YtaclnlmmkcjjeaaDoor
open Go Go.RowKit Go.Maps
set_option linter.unusedSimpArgs false
set_option linter.unusedVariables false

set_option maxRecDepth 100000 in
theorem dKey_lit (d : List UInt8) (hd : d.length = 32) : WideAt.IsKeyLit (dKey d) := lawD.key (dKey_is d hd)
set_option maxRecDepth 100000 in
theorem RLog.add {w w' : World} {b : Nat} {S : Nat → Prop} {ins : List (List UInt8)} {base m : Nat} {iv : Value} {D : DataW Unit} {val : List UInt8 → Value} (h : RLog w b S ins base m iv D val) (s d : List UInt8) (hd : d.length = 32) (hds : pSum [s] = d) (iv' v' : Value) (dv : DataW Unit)
    (hz : w.heap.size ≤ w'.heap.size) (hobj : w'.heap[b]? = some (.cells #[iv', .map (some m)] 42 (0, 0)))
    (hi : w'.ownsRow base 9 1 iv' (ins.length + 1) ((ins.map fun s => .string (str s)) ++ [.string (str s)])) (hi2 : iv'.ownBlock = iv.ownBlock ∨ ∃ g, iv'.ownBlock = some g ∧ w.heap.size ≤ g)
    (hm : w'.ownsMap Tryd.prog 30 RV m (ins.length + 1) (D.put (dKey d) dv)) (hv : RV v' = some (dv, []))
    (ho : w'.ownsRow base 9 1 v' ((grp d ins).length + 1) (((grp d ins).map fun s => .string (str s)) ++ [.string (str s)])) (hv2 : v'.ownBlock = (val d).ownBlock ∨ ∃ g, v'.ownBlock = some g ∧ w.heap.size ≤ g)
    (hne : ∀ k, v'.ownBlock = some k → iv'.ownBlock ≠ some k)
    (hk : ∀ k, k < w.heap.size → k ≠ b → k ≠ m → iv.ownBlock ≠ some k → (val d).ownBlock ≠ some k → w'.heap[k]? = w.heap[k]?) :
    ∃ S', RLog w' b S' (ins ++ [s]) base m iv' (D.put (dKey d) dv) (fun e => if e = d then v' else val e) ∧ ∀ k, S' k → S k ∨ w.heap.size ≤ k := by
  have hlt : ∀ k, iv'.ownBlock = some k → k < w'.heap.size := fun k e => (hi.lt k e).2
  have hlv : ∀ k, v'.ownBlock = some k → k < w'.heap.size := fun k e => (ho.lt k e).2
  have tidy : Tidy D := h.map.tidy lawD
  have inj : ∀ e : List UInt8, e.length = 32 → e ≠ d → dKey e ≠ dKey d := fun e he hne h1 => hne (dKey_inj e d he hd h1)
  have oldv : ∀ e, e.length = 32 → ∀ k, (val e).ownBlock = some k → k < w.heap.size := fun e he k hk' => h.old k (h.myv e he k hk')
  have oldi : ∀ k, iv.ownBlock = some k → k < w.heap.size := fun k hk' => h.old k (h.myi k hk')
  -- another digest's list lies apart from what turned
  have keptv : ∀ e, e.length = 32 → e ≠ d → ∀ k, (val e).ownBlock = some k → w'.heap[k]? = w.heap[k]? := fun e he hne' k hk' => by
    have hb := (h.vals e he).lt k hk'
    refine hk k (oldv e he k hk') (by have := h.lob; omega) (by have := h.lom; omega) (h.away e he k hk') (fun h1 => ?_)
    exact h.apart e d he hd hne' k hk' h1
  refine ⟨fun k => S k ∨ iv'.ownBlock = some k ∨ v'.ownBlock = some k, ⟨hobj, h.ne, h.lob, h.lom, Nat.le_trans h.bs hz, ?_, ?_, ?_, ?_, ?_, ?_, ?_, ?_, .inl h.myb, .inl h.mym, fun k e => .inr (.inl e), ?_, ?_⟩, ?_⟩
  · rw [List.length_append, List.map_append]; exact hi
  · rw [List.length_append]; exact hm
  · intro e he
    by_cases hed : e = d
    · subst hed
      rw [if_pos rfl, atKey_put_same tidy.isMap (dKey_lit e he)]; exact hv
    · rw [if_neg hed, atKey_put_other (inj e he hed)]; exact h.look e he
  · intro e he
    by_cases hed : e = d
    · subst hed
      rw [if_pos rfl, grp_same s e ins hds, List.length_append, List.map_append]; exact ho
    · rw [if_neg hed, grp_other s e ins (fun h1 => hed (h1.symm.trans hds))]
      exact owns_at (h.vals e he) (keptv e he hed)
  · intro e f he hf hef k
    by_cases hed : e = d
    · by_cases hfd : f = d
      · exact absurd (hed.trans hfd.symm) hef
      · rw [if_pos hed, if_neg hfd]
        intro h1 h2
        rcases hv2 with h3 | ⟨g, h3, h4⟩
        · rw [h3] at h1
          exact h.apart d f hd hf (fun h5 => hfd h5.symm) k h1 h2
        · have := oldv f hf k h2
          rw [h3] at h1
          have := Option.some.inj h1
          omega
    · by_cases hfd : f = d
      · rw [if_neg hed, if_pos hfd]
        intro h1 h2
        rcases hv2 with h3 | ⟨g, h3, h4⟩
        · rw [h3] at h2
          exact h.apart e d he hd hed k h1 h2
        · have := oldv e he k h1
          rw [h3] at h2
          have := Option.some.inj h2
          omega
      · rw [if_neg hed, if_neg hfd]
        exact h.apart e f he hf hef k
  · intro e he k
    by_cases hed : e = d
    · rw [if_pos hed]; exact hne k
    · rw [if_neg hed]
      intro h1 h2
      rcases hi2 with h3 | ⟨g, h3, h4⟩
      · rw [h3] at h2; exact h.away e he k h1 h2
      · have := oldv e he k h1
        rw [h3] at h2
        have := Option.some.inj h2
        omega
  · intro e he
    by_cases hed : e = d
    · subst hed
      rw [has_put_same tidy.isMap (dKey_lit e he), grp_same s e ins hds]
      simp
    · rw [has_put_other (inj e he hed), grp_other s e ins (fun h1 => hed (h1.symm.trans hds))]
      exact h.has e he
  · rw [size_put tidy, cnt_snoc, h.has d hd, h.size, hds]
  · intro e he k
    by_cases hed : e = d
    · rw [if_pos hed]; exact fun h1 => .inr (.inr h1)
    · rw [if_neg hed]; exact fun h1 => .inl (h.myv e he k h1)
  · rintro k (h1 | h1 | h1)
    · exact Nat.lt_of_lt_of_le (h.old k h1) hz
    · exact hlt k h1
    · exact hlv k h1
  · rintro k (h1 | h1 | h1)
    · exact .inl h1
    · rcases hi2 with h3 | ⟨g, h3, h4⟩
      · rw [h3] at h1; exact .inl (h.myi k h1)
      · rw [h3] at h1; have := Option.some.inj h1; right; omega
    · rcases hv2 with h3 | ⟨g, h3, h4⟩
      · rw [h3] at h1; exact .inl (h.myv d hd k h1)
      · rw [h3] at h1; have := Option.some.inj h1; right; omega
end Go.Proofs.YtaclnlmmkcjjeaaDoor

namespace Go.Proofs.YtaclnlmmkcjjeaaDoor
open Go Go.RowKit

theorem wpQuiet_load_row {P : Program} {ops : Array Oper} {C : World → Prop} {Q : Act → Prop} {a : Act} {o : Oper} {rest : List Oper} (hw : Region.wanted o (yielded ops a.tmps) = true) (ty : TypeId) (x : Operand) (ho : o.op = .load ty x)
    (g : Nat) (hx : a.eval x = .pointer (some ⟨g, 0, none⟩)) (t : TypeId) (cs : Array Value) (fr : Nat × Nat) (d : TypeDesc) (hg : ∀ w, C w → w.heap[g]? = some (.cells cs t fr))
    (hu : P.underlying ty = some d) (hd : (match d with | .struct _ | .array _ _ => true | _ => false) = true) (hi : (P.info? ty).map (·.size) = some cs.size)
    (h : wpQuiet P ops C Q rest (a.put o.dst (.agg cs))) : wpQuiet P ops C Q (o :: rest) a := by
  show if _ then _ else _
  rw [if_pos hw]
  refine ⟨.agg cs, fun w hC => ?_, h⟩
  have hl := run_loadVar_row w g t ty cs fr d (hg w hC) hu hd hi
  unfold Oper.quietAt execOp
  simp only [ho, hx, Instr.loadAt, Instr.sureAddr, Sem.run_bind, Sem.run_pure, Result.andThen_ok, hl]
  exact ⟨rfl, rfl⟩
end Go.Proofs.YtaclnlmmkcjjeaaDoor

namespace Go.Proofs.YtaclnlmmkcjjeaaDoor
open Go Go.RowKit

theorem wpOp_list {P : Program} {ops : Array Oper} {Q : Exit → Act → World → Prop} {i : Nat} {o : Oper} {K : Act → World → Prop} {a : Act} {w : World} (hi : ops[i]? = some o) (h : wpList P ops (Exit.then K Q) [o] a w) : wpOp P ops Q i K a w := by
  unfold wpOp
  simp only [hi]
  exact h
/-- Whichever of those that may come up comes up, walked as a list of one. -/
theorem wpAnyH_one {P : Program} {md : Region.Mode} {ops : Array Oper} {Q : Exit → Act → World → Prop} {S : World → Prop} {fuel : Nat} {listed : Array Bool} {a : Act} {w : World} (i : Nat) (o : Oper) (hr : Region.ready md ops listed = [i]) (hi : ops[i]? = some o)
    (h : wpList P ops (Exit.then (fun a' w' => S w' ∧ wpAnyH P md ops Q S fuel (listed.setIfInBounds i true) a' w') Q) [o] a w) : wpAnyH P md ops Q S (fuel + 1) listed a w :=
  wpAnyH_all hr (by simp) fun j hj => by
    obtain rfl : j = i := by simpa using hj
    exact wpOp_list hi h
theorem wpAnyH_two {P : Program} {md : Region.Mode} {ops : Array Oper} {Q : Exit → Act → World → Prop} {S : World → Prop} {fuel : Nat} {listed : Array Bool} {a : Act} {w : World} (i k : Nat) (o u : Oper) (hr : Region.ready md ops listed = [i, k]) (hi : ops[i]? = some o) (hk : ops[k]? = some u)
    (h : wpList P ops (Exit.then (fun a' w' => S w' ∧ wpAnyH P md ops Q S fuel (listed.setIfInBounds i true) a' w') Q) [o] a w)
    (h' : wpList P ops (Exit.then (fun a' w' => S w' ∧ wpAnyH P md ops Q S fuel (listed.setIfInBounds k true) a' w') Q) [u] a w) : wpAnyH P md ops Q S (fuel + 1) listed a w :=
  wpAnyH_all hr (by simp) fun j hj => by
    have hj' : j = i ∨ j = k := by simpa using hj
    rcases hj' with rfl | rfl
    · exact wpOp_list hi h
    · exact wpOp_list hk h'
theorem wpAnyH_three {P : Program} {md : Region.Mode} {ops : Array Oper} {Q : Exit → Act → World → Prop} {S : World → Prop} {fuel : Nat} {listed : Array Bool} {a : Act} {w : World} (i k l : Nat) (o u v : Oper) (hr : Region.ready md ops listed = [i, k, l]) (hi : ops[i]? = some o) (hk : ops[k]? = some u) (hl : ops[l]? = some v)
    (h : wpList P ops (Exit.then (fun a' w' => S w' ∧ wpAnyH P md ops Q S fuel (listed.setIfInBounds i true) a' w') Q) [o] a w)
    (h' : wpList P ops (Exit.then (fun a' w' => S w' ∧ wpAnyH P md ops Q S fuel (listed.setIfInBounds k true) a' w') Q) [u] a w)
    (h'' : wpList P ops (Exit.then (fun a' w' => S w' ∧ wpAnyH P md ops Q S fuel (listed.setIfInBounds l true) a' w') Q) [v] a w) : wpAnyH P md ops Q S (fuel + 1) listed a w :=
  wpAnyH_all hr (by simp) fun j hj => by
    have hj' : j = i ∨ j = k ∨ j = l := by simpa using hj
    rcases hj' with rfl | rfl | rfl
    · exact wpOp_list hi h
    · exact wpOp_list hk h'
    · exact wpOp_list hl h''
/-- A load of a part of a row, of a row, of a cell yields wherever they lie. -/
theorem yields_mid {P : Program} {ops : Array Oper} {S : World → Prop} {o : Oper} {a : Act} (hw : Region.wanted o (yielded ops a.tmps) = true) (ty : TypeId) (x : Operand) (ho : o.op = .load ty x)
    (b off : Nat) (hx : a.eval x = .pointer (some ⟨b, off, none⟩)) (cs : List Value) (d : TypeDesc) (hc : ∀ w, S w → w.rangeAt b off cs)
    (hu : P.underlying ty = some d) (hd : d.isRow = true) (hi : (P.info? ty).map (·.size) = some cs.length) : YieldsIf P ops S o (.agg cs.toArray) a := by
  refine .inl ⟨hw, fun w hS => ?_⟩
  have hl := run_loadVar_mid w b off ty cs d (hc w hS) hu hd hi
  unfold execOp
  simp only [ho, hx, Instr.loadAt, Instr.sureAddr, Sem.run_bind, Sem.run_pure, Result.andThen_ok, hl]
theorem yields_row {P : Program} {ops : Array Oper} {S : World → Prop} {o : Oper} {a : Act} (hw : Region.wanted o (yielded ops a.tmps) = true) (ty : TypeId) (x : Operand) (ho : o.op = .load ty x)
    (g : Nat) (hx : a.eval x = .pointer (some ⟨g, 0, none⟩)) (t : TypeId) (cs : Array Value) (fr : Nat × Nat) (d : TypeDesc) (hg : ∀ w, S w → w.heap[g]? = some (.cells cs t fr))
    (hu : P.underlying ty = some d) (hd : (match d with | .struct _ | .array _ _ => true | _ => false) = true) (hi : (P.info? ty).map (·.size) = some cs.size) : YieldsIf P ops S o (.agg cs) a := by
  refine .inl ⟨hw, fun w hS => ?_⟩
  have hl := run_loadVar_row w g t ty cs fr d (hg w hS) hu hd hi
  unfold execOp
  simp only [ho, hx, Instr.loadAt, Instr.sureAddr, Sem.run_bind, Sem.run_pure, Result.andThen_ok, hl]
theorem yields_build {P : Program} {ops : Array Oper} {S : World → Prop} {o : Oper} {a : Act} (hw : Region.wanted o (yielded ops a.tmps) = true) (t : TypeId) (parts : Array (Nat × Operand)) (ho : o.op = .build t parts) (cells : Array Value)
    (hb : P.built t (parts.toList.map fun (i, x) => (i, a.eval x)) = some cells) : YieldsIf P ops S o (.agg cells) a := by
  rw [← Array.toList_map] at hb
  refine .inl ⟨hw, fun w hS => ?_⟩
  unfold execOp
  simp only [ho, Sem.run_bind, run_build w t _ cells hb, Result.andThen_ok]
  rfl
end Go.Proofs.YtaclnlmmkcjjeaaDoor

namespace Go.Proofs.YtaclnlmmkcjjeaaDoor
open Go Go.RowKit
set_option linter.unusedSimpArgs false
set_option linter.unusedVariables false

theorem fill_one {s : Nat} (hs : 0 < s) (cs cells : Array Value) (hc : cs.size = s) (hz : cells.size = s) : Instr.fill (fun i => some (i * s, s)) cells [(0, .agg cs)] = some cs := by
  obtain ⟨r, hr, hsz, hk⟩ := Great.fill_dense hs [.agg cs] 0 cells (by simp [Value.cells, hc]) (by simp [hz])
  have e : r = cs := by
    apply Array.ext_getElem?
    intro k
    rw [hk k]
    by_cases h : k < s
    · rw [if_pos (by simp; omega)]
      simp [Nat.div_eq_of_lt h, Nat.mod_eq_of_lt h, Value.cells]
    · rw [if_neg (by simp; omega), Array.getElem?_eq_none (by omega), Array.getElem?_eq_none (by omega)]
  rw [e] at hr
  exact hr
theorem rowInfo {P : Program} {e : TypeId} {s b : Nat} (hi : (P.info? e).map (fun i => (i.size, i.bytes, i.zero.map (·.cells.size))) = some (s, b, some s)) : ∃ i z, P.info? e = some i ∧ i.zero = some z ∧ i.size = s ∧ i.bytes = b ∧ z.cells.size = s := by
  cases hq : P.info? e with
  | none => rw [hq] at hi; cases hi
  | some i =>
    rw [hq] at hi
    simp only [Option.map_some, Option.some.injEq, Prod.mk.injEq] at hi
    obtain ⟨h1, h2, h3⟩ := hi
    cases hz : i.zero with
    | none => rw [hz] at h3; cases h3
    | some z =>
      rw [hz] at h3
      simp only [Option.map_some, Option.some.injEq] at h3
      exact ⟨i, z, rfl, hz, h1, h2, h3⟩
theorem wpList_build_one {P : Program} {ops : Array Oper} {rest : List Oper} {o : Oper} {a : Act} {w : World} {Q : Exit → Act → World → Prop} (hg : o.guard = none) (t e : TypeId) (x : Operand) (ho : o.op = .buildSlice t 1 #[(0, x)]) (s b : Nat) (hs : 0 < s) (hs2 : s ≤ 1000)
    (cs : Array Value) (hx : a.eval x = .agg cs) (hc : cs.size = s) (hu : P.underlying t = some (.slice e)) (hi : (P.info? e).map (fun i => (i.size, i.bytes, i.zero.map (·.cells.size))) = some (s, b, some s))
    (h : wpList P ops Q rest (a.put o.dst (.slice (some ⟨w.heap.size, 0, none⟩) 1 1)) (w.alloc (.cells cs e))) : wpList P ops Q (o :: rest) a w := by
  obtain ⟨i, z, hie, hz, h1, h2, h3⟩ := rowInfo hi
  refine wpList_buildSlice hg t e 1 #[(0, x)] ho cs i z hu hie hz (by rw [h1]; omega) (by rw [h1]; omega) ?_ h
  rw [h1, show (#[(0, x)].map fun (p : Nat × Operand) => (p.1, a.eval p.2)).toList = [(0, .agg cs)] by simp [hx]]
  exact fill_one hs cs _ hc (by simp)
theorem wpList_append_one {P : Program} {ops : Array Oper} {rest : List Oper} {o : Oper} {a : Act} {Q : Exit → Act → World → Prop} (hgd : o.guard = none) (t e : TypeId) (sx x : Operand)
    (ho : o.op = .call { callee := .builtin .append, args := #[sx, x], argTypes := #[t, t] }) (s b : Nat) (hs : 0 < s) (hb2 : b ≤ 100000) (hu : P.underlying t = some (.slice e)) (hi : (P.info? e).map (fun i => (i.size, i.bytes, i.zero.map (·.cells.size))) = some (s, b, some s))
    (B : Nat) (v : Value) (n : Nat) (xs : List Value) (hv : a.eval sx = v) (wr : World) (hown : wr.ownsRow B e s v n xs) (hB : B ≤ wr.heap.size) (cs : Array Value) (hc : cs.size = s) (h1 : cs.all (·.oneCell') = true)
    (hx : a.eval x = .slice (some ⟨wr.heap.size, 0, none⟩) 1 1) (hlen : n + 1 ≤ 1048576)
    (h : ∀ v' w', w'.ownsRow B e s v' (n + 1) (xs ++ cs.toList) → Below B wr w' → (∀ k, k < wr.heap.size → some k ≠ v.ownBlock → w'.heap[k]? = wr.heap[k]?) → wpList P ops Q rest (a.put o.dst v') w') : wpList P ops Q (o :: rest) a (wr.alloc (.cells cs e)) := by
  obtain ⟨i, z, hie, hz, e1, e2, e3⟩ := rowInfo hi
  refine wpList_append_own _ hgd sx x t ho B e i z s b hu hie hz e1 e2 e3 hs v n xs hv (hown.alloc _) ⟨wr.heap.size, 0, none⟩ 1 1 cs.toList hx (by simp [hc]) ?_ ?_ (by unfold maxLen; omega) ?_ (by rw [World.size_alloc]; omega) ?_
  · intro j u hj
    rw [show (⟨wr.heap.size, 0, none⟩ : Addr).add j = ⟨wr.heap.size, j, none⟩ by unfold Addr.add; split <;> simp_all, cell_of_row _ _ _ _ _ _ (al1 wr (.cells cs e))]
    rw [← Array.getElem?_toList]; exact hj
  · intro u hu'
    exact Array.all_eq_true_iff_forall_mem.1 h1 u (Array.mem_toList_iff.1 hu')
  · exact Nat.le_trans (Nat.mul_le_mul hlen hb2) (by decide)
  · intro v' w' ho' hg _
    have kept : ∀ k, k < wr.heap.size → some k ≠ v.ownBlock → w'.heap[k]? = wr.heap[k]? := fun k hk hn => (hg.block k (by rw [World.size_alloc]; omega) hn).trans (Below.heap_alloc wr _ k hk)
    refine h v' w' ho' ?_ kept
    have hA := (Below.refl B wr).alloc hB (.cells cs e)
    refine hA.trans ⟨hg.os, hg.tape, hg.output, hg.size, fun k hk => hg.block k (by rw [World.size_alloc]; omega) ?_⟩
    intro hc'
    have := (hown.lt k hc'.symm).1
    omega
end Go.Proofs.YtaclnlmmkcjjeaaDoor

namespace Go.Proofs.YtaclnlmmkcjjeaaDoor
open Go Go.RowKit Go.Maps
open Go.ChangeMaps
set_option linter.unusedSimpArgs false
set_option linter.unusedVariables false

theorem wpQuiet_lookup {P : Program} {ops : Array Oper} {C : World → Prop} {Q : Act → Prop} {a : Act} {o : Oper} {rest : List Oper} (hw : Region.wanted o (yielded ops a.tmps) = true) (t : TypeId) (x k : Operand) (ho : o.op = .lookup t x k false)
    (m kv v : Value) (hx : a.eval x = m) (hk : a.eval k = kv) (hr : ∀ w, C w → (Instr.lookup t m kv false).run P w = .ok v w) (h : wpQuiet P ops C Q rest (a.put o.dst v)) : wpQuiet P ops C Q (o :: rest) a := by
  show if _ then _ else _
  rw [if_pos hw]
  refine ⟨v, fun w hC => ?_, h⟩
  unfold Oper.quietAt execOp
  simp only [ho, hx, hk, Sem.run_bind, hr w hC, Result.andThen_ok]
  exact ⟨rfl, rfl⟩
theorem wpList_mapEntry {P : Program} {ops : Array Oper} {rest : List Oper} {o : Oper} {a : Act} {Q : Exit → Act → World → Prop} (w : World) (hg : o.guard = none) (t : TypeId) (x k : Operand) (ho : o.op = .mapEntry t x k)
    (m kv v : Value) (w' : World) (hx : a.eval x = m) (hk : a.eval k = kv) (hr : (Instr.mapEntry t m kv).run P w = .ok v w') (h : wpList P ops Q rest (a.put o.dst v) w') : wpList P ops Q (o :: rest) a w := by
  refine wpList_plain hg fun K hK => ?_
  unfold Oper.wp
  simp [execOp, ho, hx, hk, hr, Result.andThen]
  exact hK _ _ h
theorem wpList_entryStore {P : Program} {ops : Array Oper} {rest : List Oper} {o : Oper} {a : Act} {Q : Exit → Act → World → Prop} (w : World) (hg : o.guard = none) (t : TypeId) (x s y : Operand) (ho : o.op = .entryStore t x s y)
    (m sv v : Value) (w' : World) (hx : a.eval x = m) (hs : a.eval s = sv) (hy : a.eval y = v) (hr : (Instr.entryStore t m sv v).run P w = .ok () w') (h : wpList P ops Q rest (a.put o.dst undef) w') : wpList P ops Q (o :: rest) a w := by
  refine wpList_plain hg fun K hK => ?_
  unfold Oper.wp
  simp [execOp, ho, hx, hs, hy, hr, Result.andThen]
  exact hK _ _ h
set_option maxRecDepth 100000 in
theorem lawDl : WideMaps.KeyLaw Tryd.prog 30 := deep_law_laid kLaidOut (m := 2) (by omega) rowOfD (by kernel_rfl) wideD
theorem zeroL (u : World) : (zeroValue 40).run Tryd.prog u = .ok (.slice none 0 0) u := by kernel_rfl
theorem strRow : (Tryd.prog.info? 9).map (fun i => (i.size, i.bytes, i.zero.map (·.cells.size))) = some (1, 16, some 1) := by kernel_rfl
theorem noteSt (s t : List UInt8) : ((str s).toList == (str t).toList) = decide (s = t) := by
  rw [ByteArray.toList_eq, ByteArray.toList_eq, str_toList, str_toList, Bool.eq_iff_iff]; simp
theorem RBut.same {T : Nat → Prop} {w w' w'' : World} (h : RBut T w w') (h' : RBut T w' w'') : RBut T w w'' := h.trans h' (fun k hk => .inl hk)
theorem slice_of {base n sz : Nat} {w : World} {t : TypeId} {v : Value} {xs : List Value} (h : w.ownsRow base t sz v (n + 1) xs) : ∃ g c, v = .slice (some ⟨g, 0, none⟩) (n + 1) c := by
  rcases h.2 with ⟨_, h0⟩ | ⟨g, cap, cur, h1, _⟩
  · omega
  · exact ⟨g, cap, h1⟩
theorem RBut.wider {T T' : Nat → Prop} {w w' : World} (h : RBut T w w') (hT : ∀ k, T k → T' k) : RBut T' w w' := ⟨h.os, h.tape, h.output, h.size, fun k hk hn => h.block k hk (fun h1 => hn (hT k h1))⟩
theorem RBut.of_grown {T : Nat → Prop} {w w' : World} {row : Option Nat} (h : w.grownBy w' row) (hT : ∀ k, row = some k → T k) : RBut T w w' := ⟨h.os, h.tape, h.output, h.size, fun k hk hn => h.block k hk (fun e => hn (hT k e.symm))⟩
theorem RBut.of_setBlock {T : Nat → Prop} {w : World} {m : Nat} {es : Array MapEntry} {c : Nat} (h : w.heap[m]? = some (.map es c)) (o : Obj) (hT : T m) : RBut T w (setBlock w m o) := ⟨rfl, rfl, rfl, by simp [setBlock], fun k _ hn => heap_setBlock_other h o (fun e => hn (by rw [e]; exact hT))⟩
theorem RBut.of_setCell {T : Nat → Prop} (w : World) (b j : Nat) (v : Value) (hT : T b) : RBut T w (w.setCell ⟨b, j, none⟩ v) := ⟨rfl, rfl, rfl, by simp, fun k _ hn => heap_setCell_other _ _ _ _ (fun e => hn (by rw [e]; exact hT))⟩
set_option maxHeartbeats 2000000 in
set_option maxRecDepth 100000 in
theorem rnote_calls (b : Nat) (S : Nat → Prop) (ins : List (List UInt8)) (s d : List UInt8) (hd : d.length = 32) (hds : pSum [s] = d) (hs : s.length ≤ maxLen) (hn : ins.length < 1000000) (w : World) (hL : RLogAt w b S ins) :
    Calls Tryd.prog 24 #[.pointer (some ⟨b, 0, none⟩), .agg (bc d), .string (str s)] w fun e w' => e = .returned (.tuple #[]) ∧ RStep b S (rnoted s ins) w w' := by
  obtain ⟨base, m, iv, D, val, h⟩ := hL
  have hi0 := digInfo d hd
  have q0 := al1 w (.cells (bc d) 30)
  have b0 := (Below.refl w.heap.size w).alloc (Nat.le_refl _) (.cells (bc d) 30)
  obtain ⟨X, hX⟩ : ∃ X, w.alloc (.cells (bc d) 30) = X := ⟨_, rfl⟩
  rw [hX] at q0 b0
  have HX := hide hX
  have hRX := h.below b0
  obtain ⟨V, hV⟩ : ∃ V, val d = V := ⟨_, rfl⟩
  obtain ⟨G, hG⟩ : ∃ G, grp d ins = G := ⟨_, rfl⟩
  obtain ⟨n, hnn⟩ : ∃ n, G.length = n := ⟨_, rfl⟩
  have hown := hRX.vals d hd
  rw [hV, hG, hnn] at hown
  have hnle : n ≤ ins.length := by rw [← hnn, ← hG]; exact grp_le d ins
  obtain ⟨p, c, hVe, hcell⟩ : ∃ p c, V = .slice p n c ∧ (0 < n → ∃ g o, p = some ⟨g, o, none⟩ ∧ g < X.heap.size ∧ ∀ j, j < n → X.cell? ⟨g, o + j, none⟩ = some (.string (str (G.getD j [])))) := by
    rcases hown.2 with ⟨h1, h2⟩ | ⟨g, cap, cur, h1, _, hg, hc, _, hs, ht⟩
    · exact ⟨none, 0, by rw [h1, h2], fun h3 => by omega⟩
    · refine ⟨_, cap, h1, fun _ => ⟨g, 0, rfl, (Array.getElem?_eq_some_iff.1 hg).1, fun j hj => ?_⟩⟩
      rw [Nat.zero_add, cell_of_row _ _ _ _ _ _ hg]
      have h4 : (G.map fun s => Value.string (str s))[j]? = some (.string (str (G.getD j []))) := by
        rw [List.getElem?_map, List.getD_eq_getElem?_getD, List.getElem?_eq_getElem (by omega)]; rfl
      rw [← ht, List.getElem?_take] at h4
      split at h4
      · simpa using h4
      · cases h4
  have hlook : Hid (∀ W : World, W.heap[m]? = X.heap[m]? → (Instr.lookup 39 (.map (some m)) (.agg (bc d)) false).run Tryd.prog W = .ok (.slice p n c) W) := hide fun W hW => by
    obtain ⟨v0, ps, h1, h2⟩ := (map_at hRX.map hW).lookup lawD Tryd.underlying39 (zeroL W) RV_nil (dKey_is d hd)
    rw [h1, RV_inj h2 (hRX.look d hd) rfl, hV, hVe]
  have HMB : Hid (∀ dd os, (Sort.grow (redrawn X dd) os).heap[m]? = X.heap[m]?) := hide fun dd os => (below_regrown X dd os).block m hRX.map.lt
  have x1 := hRX.obj
  have c0 : ∀ dd os, (Sort.grow (redrawn X dd) os).cell? ⟨b, 1, none⟩ = some (.map (some m)) := fun dd os => by
    rw [cell_of_row _ _ _ _ _ _ (Below.at (below_regrown X dd os) (Array.getElem?_eq_some_iff.1 x1).1 x1)]; rfl
  have r0 : Hid (∀ w', (∃ p : Regrown, w' = Sort.grow (redrawn X p.d) p.os) → w'.heap[w.heap.size]? = some (.cells (bc d) 30 (0, 0))) := fun w' ⟨p, hp⟩ => by rw [hp]; exact Below.at (below_regrown X p.d p.os) (Array.getElem?_eq_some_iff.1 q0).1 q0
  have hq : ∀ i, ((str (G.getD i [])).toList == (str s).toList) = decide (G.getD i [] = s) := fun i => noteSt _ _
  have Hq := hide hq
  have HG := hide hG
  have HN := hide hnn
  have Hcell := hide hcell
  have HVe := hide hVe
  have HR := hide hRX
  have H0 := hide h
  have HB0 := hide b0
  have Q0 := hide q0
  have HDS := hide hds
  have Hs := hide hs
  have Hd := hide hd
  have Hown := hide hown
  have HV := hide hV
  clear hX hds hs hd h hRX x1 q0 b0 hown hcell hVe hG hnn hV hq
  go_enter Tryd.func24, Tryd.ntmps24
  go_wp2_with (rw [unhide HX])
  refine wp_region_below mixed (by kernel_rfl) ?_
  quiet_step (fail)
  quiet_step (fail)
  quiet_step (fail)
  quiet_step (fail)
  refine wpQuiet_load_row rfl 30 (.tmp 4) rfl w.heap.size rfl 30 _ (0, 0) _ (unhide r0) Tryd.underlying30 rfl hi0 ?_
  refine wpQuiet_lookup rfl 39 (.tmp 13) (.tmp 14) rfl (.map (some m)) (.agg (bc d)) (.slice p n c) rfl rfl (fun W ⟨p, hp⟩ => by rw [hp]; exact unhide hlook _ (unhide HMB p.d p.os)) ?_
  quiet_step (fail)
  quiet_step (fail)
  refine wpQuiet_nil ?_
  intro w2 b2
  have hR2 := hide ((unhide HR).below b2)
  have b02 := (unhide HB0).trans (b2.mono (unhide HB0).size)
  have Q2 := hide (Below.at b2 (Array.getElem?_eq_some_iff.1 (unhide Q0)).1 (unhide Q0))
  have HB2 := hide b2
  have HB02 := hide b02
  have hcl2 : Hid (0 < n → ∃ g o, p = some ⟨g, o, none⟩ ∧ ∀ j, j < n → w2.cell? ⟨g, o + j, none⟩ = some (.string (str (G.getD j [])))) := hide fun h3 => by
    obtain ⟨g, o, h4, h5, h6⟩ := unhide Hcell h3
    exact ⟨g, o, h4, fun j hj => by rw [(unhide HB2).cell (p := ⟨g, o + j, none⟩) h5]; exact h6 j hj⟩
  clear c0 r0 hlook HMB b2 b02 Hcell
  go_wp2
  go_loopw [17] (fun i wr => ∃ k : Nat, k ≤ n ∧ i = .int .i64 (k : Int) ∧ wr = w2 ∧ Hid (∀ j, j < k → G.getD j [] ≠ s)) (fun i _ => n - (intOf i).toNat)
  case atStart => exact ⟨0, by omega, rfl, rfl, hide fun j hj => absurd hj (Nat.not_lt_zero _)⟩
  case round =>
    obtain ⟨k, hk, rfl, hwr, hno⟩ := hrel
    have hwr2 := hwr.symm
    subst hwr2
    clear hwr
    by_cases hlt : k < n
    · have hd1 : decide (k < n) = true := by simpa using hlt
      have bk : (k : Int) < (n : Int) := by omega
      obtain ⟨g, o, rfl, hc⟩ := unhide hcl2 (by omega)
      have c := hc k hlt
      have hqk := unhide Hq k
      have hmem : Hid (G.getD k [] ∈ G) := hide (by rw [List.getD_eq_getElem?_getD, List.getElem?_eq_getElem (by rw [unhide HN]; exact hlt)]; exact List.getElem_mem _)
      have hrec : Hid (G.getD k [] ≠ s → ∀ j, j < k + 1 → G.getD j [] ≠ s) := hide fun h1 j hj => by
        by_cases e : j = k
        · rw [e]; exact h1
        · exact unhide hno j (by omega)
      generalize G.getD k [] = E at *
      clear hc
      by_cases hE : E = s
      · have hq1 : decide (E = s) = true := by simpa using hE
        rw [hq1] at hqk
        have HE := hide hE
        clear hE hq1
        go_wp2
        refine bodyPost_ret (results_none rfl _ _ _) rfl ⟨rfl, ?_⟩
        have hin : s ∈ ins := by
          rw [← mem_grp, unhide HDS, unhide HG, ← unhide HE]; exact unhide hmem
        rw [rnoted, if_pos hin]
        exact RStep.same ⟨_, _, _, _, _, unhide H0⟩ (unhide HB02)
      · have hq1 : decide (E = s) = false := by simpa using hE
        rw [hq1] at hqk
        have HE := hide hE
        clear hE hq1
        go_wp2
        go_roundw
        case rel => exact ⟨k + 1, by omega, by go_num, by first | rfl | trivial, hide (unhide hrec (unhide HE))⟩
        case measure => simp [intOf]; omega
    · have hd1 : decide (k < n) = false := by simpa using hlt
      have hnin : Hid (s ∉ ins) := hide fun hin => by
        rw [← mem_grp, unhide HDS, unhide HG] at hin
        obtain ⟨j, hj, e⟩ := List.getElem_of_mem hin
        refine unhide hno j (by have := unhide HN; omega) ?_
        rw [List.getD_eq_getElem?_getD, List.getElem?_eq_getElem hj]; exact e
      have HLT := hide hlt
      clear hno hd1 hlt
      go_upto_region 7 with fail
      -- what the region finds
      have F := unhide hR2
      have F1 := F.obj
      have FQ := unhide Q2
      have hbm := F.ne
      have hmN : m ≠ w.heap.size := by have := (unhide H0).old m (unhide H0).mym; omega
      have hbN : b ≠ w.heap.size := by have := (unhide H0).old b (unhide H0).myb; omega
      obtain ⟨SS, hSS⟩ : ∃ SS : World → Prop, SS = fun W => W.heap[b]? = some (.cells #[iv, .map (some m)] 42 (0, 0)) ∧ W.heap[w.heap.size]? = some (.cells (bc d) 30 (0, 0)) := ⟨_, rfl⟩
      have HSS : Hid (∀ W : World, SS W ↔ (W.heap[b]? = some (.cells #[iv, .map (some m)] 42 (0, 0)) ∧ W.heap[w.heap.size]? = some (.cells (bc d) 30 (0, 0)))) := hide fun W => by rw [hSS]
      clear hSS
      have hr0 : Hid (∀ W, SS W → W.heap[w.heap.size]? = some (.cells (bc d) 30 (0, 0))) := hide fun W h => ((unhide HSS W).1 h).2
      have hr1 : Hid (∀ W, SS W → W.cell? ⟨b, 1, none⟩ = some (.map (some m))) := hide fun W h => by rw [cell_of_row _ _ _ _ _ _ ((unhide HSS W).1 h).1]; rfl
      have hS0 : SS ({ w2 with drawn := w2.drawn + 1 } : World) := (unhide HSS _).2 ⟨F1, FQ⟩
      have HF := hide F
      have HMN := hide hmN
      have HBN := hide hbN
      have HBM := hide hbm
      clear F F1 FQ hbm hmN hbN
      refine wp_region_held (S := SS) mixed ?_
      refine wpAnyH_take (i := 0) (v := .pointer (some ⟨b, 0, none⟩)) rfl (by kernel_rfl) (by kernel_rfl) (by kernel_rfl) (fun _ _ _ h => h) (.inl ⟨rfl, fun _ _ => rfl⟩) hS0 ?_
      refine wpAnyH_take (i := 1) (v := .pointer (some ⟨b, 0, none⟩)) rfl (by kernel_rfl) (by kernel_rfl) (by kernel_rfl) (fun _ _ _ h => h) (.inl ⟨rfl, fun _ _ => rfl⟩) hS0 ?_
      go_simp
      refine wpAnyH_take (i := 2) (v := .pointer (some ⟨b, 1, none⟩)) rfl (by kernel_rfl) (by kernel_rfl) (by kernel_rfl) (fun _ _ _ h => h) (.inl ⟨rfl, fun _ _ => rfl⟩) hS0 ?_
      refine wpAnyH_take (i := 3) (v := .map (some m)) rfl (by kernel_rfl) (by kernel_rfl) (by kernel_rfl) (fun _ _ _ h => h) (.inl ⟨rfl, fun W hW => by have c2 := unhide hr1 W hW; go_simp⟩) hS0 ?_
      go_simp
      refine wpAnyH_take (i := 4) (v := .agg (bc d)) rfl (by kernel_rfl) (by kernel_rfl) (by kernel_rfl) (fun _ _ _ h => h) (yields_row rfl 30 (.tmp 4) rfl w.heap.size rfl 30 (bc d) (0, 0) _ (unhide hr0) Tryd.underlying30 rfl hi0) hS0 ?_
      refine wpAnyH_take (i := 5) (v := .string (str s)) rfl (by kernel_rfl) (by kernel_rfl) (by kernel_rfl) (fun _ _ _ h => h) (.inl ⟨rfl, fun _ _ => rfl⟩) hS0 ?_
      go_simp
      obtain ⟨ti, tz, hie, htz, e1, e2, e3⟩ := rowInfo strRow
      obtain ⟨T, hT⟩ : ∃ T : Nat → Prop, T = fun k => k = b ∨ k = m ∨ iv.ownBlock = some k ∨ V.ownBlock = some k := ⟨_, rfl⟩
      have hTb : T b := by rw [hT]; exact .inl rfl
      have hTm : T m := by rw [hT]; exact .inr (.inl rfl)
      have hTi : ∀ k, iv.ownBlock = some k → T k := by rw [hT]; exact fun k h => .inr (.inr (.inl h))
      have hTv : ∀ k, V.ownBlock = some k → T k := by rw [hT]; exact fun k h => .inr (.inr (.inr h))
      have HT := hide hT
      obtain ⟨U, hU⟩ : ∃ U : Nat → Prop, U = fun k => k = m ∨ V.ownBlock = some k := ⟨_, rfl⟩
      have hUm : U m := by rw [hU]; exact .inl rfl
      have hUv : ∀ k, V.ownBlock = some k → U k := by rw [hU]; exact fun k h => .inr h
      have hUT : Hid (∀ k, U k → T k) := hide (by rw [hU]; exact fun k h => h.elim (fun h => by rw [h]; exact hTm) (hTv k))
      have hUi : Hid (∀ k, iv.ownBlock = some k → ¬ U k) := hide (by rw [hU]; exact fun k hk h => h.elim (fun h => by rw [h] at hk; have := (unhide HF).lom; have := ((unhide HF).inp.lt m hk).1; omega) (fun h => (unhide HF).away d (unhide Hd) k (by rw [unhide HV]; exact h) hk))
      have hF := unhide HF
      have hvals : w2.ownsRow base 9 1 V n (G.map fun s => .string (str s)) := by have := hF.vals d (unhide Hd); rw [unhide HV, unhide HG, unhide HN] at this; exact this
      have hinp := hF.inp
      have hmlt := hF.map.lt
      have hib : ∀ k, iv.ownBlock = some k → k ≠ b ∧ k ≠ m ∧ k < w2.heap.size := fun k e => ⟨by have := (hinp.lt k e).1; have := hF.lob; omega, by have := (hinp.lt k e).1; have := hF.lom; omega, (hinp.lt k e).2⟩
      have hvb : ∀ k, V.ownBlock = some k → k ≠ b ∧ k ≠ m ∧ k < w2.heap.size := fun k e => ⟨by have := (hvals.lt k e).1; have := hF.lob; omega, by have := (hvals.lt k e).1; have := hF.lom; omega, (hvals.lt k e).2⟩
      have hvi : ∀ k, V.ownBlock = some k → iv.ownBlock ≠ some k := fun k e => hF.away d (unhide Hd) k (by rw [unhide HV]; exact e)
      have hblt : b < w2.heap.size := (Array.getElem?_eq_some_iff.1 hF.obj).1
      have hNlt : w.heap.size < w2.heap.size := (Array.getElem?_eq_some_iff.1 (unhide Q2)).1
      have hNT : ¬ T w.heap.size := by
        rw [hT]
        rintro (h1 | h1 | h1 | h1)
        · exact unhide HBN h1.symm
        · exact unhide HMN h1.symm
        · have := (unhide H0).old _ ((unhide H0).myi _ h1); omega
        · have := (unhide H0).old _ ((unhide H0).myv d (unhide Hd) _ (by rw [unhide HV]; exact h1)); omega
      have hbs := hF.bs
      have hkey := dKey_is d (unhide Hd)
      have HVB := hide hvb
      have HIB := hide hib
      have HVI := hide hvi
      have HVV := hide hvals
      have HINP := hide hinp
      have HTI := hide hTi
      have HTV := hide hUv
      have HNT := hide (fun h => hNT (unhide hUT _ h))
      have HTM := hide hUm
      have HTB := hide hTb
      clear hF hT hU hUm hUv hTb hTm hTi hTv hib hvb hvi hNT hinp hvals
      refine wpAnyH_one 6 _ (by kernel_rfl) rfl ?_
      · go_wp2
        obtain ⟨Y, hY⟩ : ∃ Y, (w2.alloc (.cells #[.string (str s)] 9)).drew = Y := ⟨_, rfl⟩
        have yb0 := (Below.refl w2.heap.size w2).alloc (Nat.le_refl _) (.cells #[.string (str s)] 9)
        have yb : Below w2.heap.size w2 Y := by rw [← hY]; exact ⟨yb0.os, yb0.tape, yb0.output, yb0.size, yb0.block⟩
        have yq : Y.heap[w2.heap.size]? = some (.cells #[.string (str s)] 9 (0, 0)) := by rw [← hY]; exact al1 w2 _
        have ym : Y.heap[m]? = w2.heap[m]? := yb.block m hmlt
        have y1 : Y.heap[b]? = some (.cells #[iv, .map (some m)] 42 (0, 0)) := (yb.block b hblt).trans (unhide HF).obj
        have y2 : Y.heap[w.heap.size]? = some (.cells (bc d) 30 (0, 0)) := (yb.block _ hNlt).trans (unhide Q2)
        have yz : w2.heap.size < Y.heap.size := (Array.getElem?_eq_some_iff.1 yq).1
        rw [hY]
        refine ⟨(unhide HSS _).2 ⟨y1, y2⟩, ?_⟩
        clear hY
        have hmY : Hid (Y.ownsMap Tryd.prog 30 RV m ins.length D) := hide (map_at (unhide HF).map ym)
        obtain ⟨es0, cl0, hm0⟩ : ∃ es c, Y.heap[m]? = some (.map es c) := by obtain ⟨es, c, h1, _⟩ := unhide hmY; exact ⟨es, c, h1⟩
        obtain ⟨v0, st, es1, c1, hr, hv0, hst⟩ := map_entry (unhide hmY) lawDl Tryd.underlying39 zeroL RV_nil (by unfold maxLen; omega) hkey
        have hv0V : V = v0 := by
          obtain ⟨ps, hv0⟩ := hv0
          rw [RV_inj hv0 ((unhide HF).look d (unhide Hd)) rfl, unhide HV]
        subst hv0V
        clear hv0
        have HST := hide hst
        clear hst
        refine wpAnyH_one 7 _ (by kernel_rfl) rfl ?_
        go_wp2_with (refine wpList_mapEntry _ rfl 39 (.tmp 28) (.tmp 29) rfl (.map (some m)) (.agg (bc d)) _ _ rfl rfl hr ?_)
        have zm : (setBlock Y m (.map es1 c1)).heap[m]? = some (.map es1 c1) := heap_setBlock_same hm0 _
        have zb : (setBlock Y m (.map es1 c1)).heap[b]? = some (.cells #[iv, .map (some m)] 42 (0, 0)) := (heap_setBlock_other hm0 _ (unhide HBM)).trans y1
        have zt : RBut U w2 (setBlock Y m (.map es1 c1)) := (RBut.of_below yb).same (RBut.of_setBlock hm0 _ (unhide HTM))
        have zq : (setBlock Y m (.map es1 c1)).heap[w2.heap.size]? = some (.cells #[.string (str s)] 9 (0, 0)) := (heap_setBlock_other hm0 _ (by omega)).trans yq
        have zV : ∀ k, k < w2.heap.size → k ≠ m → (setBlock Y m (.map es1 c1)).heap[k]? = w2.heap[k]? := fun k hk hne => (heap_setBlock_other hm0 _ hne).trans (yb.block k hk)
        have zz : w2.heap.size < (setBlock Y m (.map es1 c1)).heap.size := (Array.getElem?_eq_some_iff.1 zq).1
        have hS2 := (unhide HSS _).2 ⟨zb, ((zV _ hNlt (fun e => unhide HMN e.symm)).trans (unhide Q2))⟩
        refine ⟨hS2, ?_⟩
        obtain ⟨Z, hZ⟩ : ∃ x, setBlock Y m (.map es1 c1) = x := ⟨_, rfl⟩
        rw [hZ] at zm zb zt zq zV zz hS2
        rw [hZ]
        clear hZ hr hm0 hmY yb yq ym y1 y2 yz
        refine wpAnyH_take (i := 8) (v := V) rfl (by kernel_rfl) (by kernel_rfl) (by kernel_rfl) (fun _ _ _ h => h) (.inl ⟨rfl, fun _ _ => rfl⟩) hS2 ?_
        refine wpAnyH_take (i := 10) (v := st) rfl (by kernel_rfl) (by kernel_rfl) (by kernel_rfl) (fun _ _ _ h => h) (.inl ⟨rfl, fun _ _ => rfl⟩) hS2 ?_
        go_simp
        have hvZ : Z.ownsRow base 9 1 V n (G.map fun s => .string (str s)) := owns_at (unhide HVV) (fun k e => (zV k (unhide HVB k e).2.2 (unhide HVB k e).2.1))
        have hnews : ∀ j u, [Value.string (str s)][j]? = some u → Z.cell? ((⟨w2.heap.size, 0, none⟩ : Addr).add j) = some u := by
          intro j u hj
          have hj0 : j = 0 := by
            have := (List.getElem?_eq_some_iff.1 hj).1; simp at this; omega
          subst hj0
          simp at hj
          subst hj
          rw [show (⟨w2.heap.size, 0, none⟩ : Addr).add 0 = ⟨w2.heap.size, 0, none⟩ by simp [Addr.add], cell_of_row _ _ _ _ _ _ zq]; rfl
        refine wpAnyH_one 9 _ (by kernel_rfl) rfl ?_
        refine wpList_append_own_at _ rfl (.tmp 30) (.tmp 32) 40 rfl base 9 ti tz 1 16 Tryd.underlying40 hie htz e1 e2 e3 (by decide) V n _ rfl hvZ ⟨w2.heap.size, 0, none⟩ 1 1 [.string (str s)] rfl rfl hnews (by simp [Value.oneCell']) (by unfold maxLen; omega) (by omega) (by have := zz; omega) ?_
        intro v' W3 ho3 hg3 hn3 ha3
        go_wp2
        have h3m : W3.heap[m]? = some (.map es1 c1) := (hg3.block m (by have := zz; omega) (fun e => ((unhide HVB) m e.symm).2.1 rfl)).trans zm
        have t3 : RBut U w2 W3 := zt.same (RBut.of_grown hg3 (unhide HTV))
        have h3b : W3.heap[b]? = some (.cells #[iv, .map (some m)] 42 (0, 0)) := (hg3.block b (by have := zz; omega) (fun e => ((unhide HVB) b e.symm).1 rfl)).trans zb
        have h3N : W3.heap[w.heap.size]? = some (.cells (bc d) 30 (0, 0)) := (t3.block _ hNlt (unhide HNT)).trans (unhide Q2)
        refine ⟨(unhide HSS _).2 ⟨h3b, h3N⟩, ?_⟩
        obtain ⟨dv, hdv⟩ := owns_RV ho3
        obtain ⟨es', c', hr4, hmap4⟩ := unhide HST W3 v' dv hdv h3m
        refine wpAnyH_one 11 _ (by kernel_rfl) rfl ?_
        go_wp2_with (refine wpList_entryStore _ rfl 39 (.tmp 28) (.tmp 35) (.tmp 34) rfl (.map (some m)) st v' _ rfl rfl rfl hr4 ?_)
        have h4m : (setBlock W3 m (.map es' c')).heap[m]? = some (.map es' c') := heap_setBlock_same h3m _
        have t4 : RBut U w2 (setBlock W3 m (.map es' c')) := t3.same (RBut.of_setBlock h3m _ (unhide HTM))
        have h4b : (setBlock W3 m (.map es' c')).heap[b]? = some (.cells #[iv, .map (some m)] 42 (0, 0)) := (heap_setBlock_other h3m _ (unhide HBM)).trans h3b
        have hvm : ∀ k, v'.ownBlock = some k → k ≠ m := fun k e => by have := (ho3.lt k e).1; have := (unhide HF).lom; omega
        have ho4 : (setBlock W3 m (.map es' c')).ownsRow base 9 1 v' (n + 1) ((G.map fun s => .string (str s)) ++ [.string (str s)]) := owns_at ho3 (fun k e => heap_setBlock_other h3m _ (hvm k e))
        have hvl : v'.ownBlock = V.ownBlock ∨ ∃ g, v'.ownBlock = some g ∧ w2.heap.size ≤ g := ha3.imp_right (fun e => ⟨_, e, by have := zz; omega⟩)
        refine ⟨(unhide HSS _).2 ⟨h4b, (t4.block _ hNlt (unhide HNT)).trans (unhide Q2)⟩, ?_⟩
        obtain ⟨W4, hW4⟩ : ∃ x, setBlock W3 m (.map es' c') = x := ⟨_, rfl⟩
        rw [hW4] at h4m t4 h4b ho4
        rw [hW4]
        have HM4 := hide hmap4
        have HO4 := hide ho4
        have HVL := hide hvl
        have HT4 := hide t4
        have HDV := hide hdv
        have hi4 : W4.ownsRow base 9 1 iv ins.length (ins.map fun s => .string (str s)) := owns_at (unhide HINP) (fun k e => ((unhide HT4).block k (unhide HIB k e).2.2 (unhide hUi k e)))
        have c4 : W4.cell? ⟨b, 0, none⟩ = some iv := by rw [cell_of_row _ _ _ _ _ _ h4b]; rfl
        have z4 : w2.heap.size ≤ W4.heap.size := t4.size
        have H4M := hide h4m
        have H4B := hide h4b
        clear hr4 hmap4 ho4 hvl t4 hdv h3m t3 h3b h3N ho3 hg3 hn3 ha3 hvm h4m h4b hW4 zt zm zb zq zV hvZ hnews
        refine wpAnyH_done (by kernel_rfl) ?_ _
        go_wp2_with (at_builtin; refine wpList_append_own_at _ rfl (.tmp 40) (.tmp 42) 40 rfl base 9 ti tz 1 16 Tryd.underlying40 hie htz e1 e2 e3 (by decide) iv ins.length _ rfl (hi4.alloc _) ⟨W4.heap.size, 0, none⟩ 1 1 [.string (str s)] rfl rfl (cell_one_new _ _ _) (by simp [Value.oneCell']) (by unfold maxLen; omega) (by omega) (by simp; omega) ?_; intro iv' W5 ho5 hg5 hn5 ha5; obtain ⟨g5, cc5, hiv5⟩ : ∃ g c, iv' = .slice (some ⟨g, 0, none⟩) (ins.length + 1) c := (slice_of ho5); subst hiv5; have h5b := (hg5.block b (by simp; omega) (fun e => ((unhide HIB) b e.symm).1 rfl)).trans ((heap_alloc_old W4 _ (by omega)).trans (unhide H4B)); have f5 := frozen_of_row W5 b 0 _ _ h5b; have c5 : W5.cell? ⟨b, 0, none⟩ = some iv := by (rw [cell_of_row _ _ _ _ _ _ h5b]; rfl))
        refine bodyPost_end (results_none rfl _ _ _) rfl ⟨rfl, ?_⟩
        obtain ⟨iv', hivE⟩ : ∃ x, Value.slice (some ⟨g5, 0, none⟩) (ins.length + 1) cc5 = x := ⟨_, rfl⟩
        rw [hivE] at ho5 hn5 ha5 ⊢
        have kb5 : ∀ k, k ≠ b → (W5.setCell ⟨b, 0, none⟩ iv').heap[k]? = W5.heap[k]? := fun k hk => heap_setCell_other _ _ _ _ hk
        have t5 : RBut T w2 (W5.setCell ⟨b, 0, none⟩ iv') := ((((unhide HT4).wider (unhide hUT)).same (RBut.of_below ((Below.refl _ W4).alloc (Nat.le_refl _) _))).same (RBut.of_grown hg5 (unhide HTI))).same (RBut.of_setCell _ _ _ _ (unhide HTB))
        have n5 : ∀ k, k < W4.heap.size → iv.ownBlock ≠ some k → W5.heap[k]? = W4.heap[k]? := fun k hk hne => (hg5.block k (by simp; omega) (fun e => hne e.symm)).trans (heap_alloc_old W4 _ hk)
        have i5b : ∀ k, iv'.ownBlock = some k → k ≠ b := fun k e => by have := (ho5.lt k e).1; have := (unhide HF).lob; omega
        have v4b : ∀ k, v'.ownBlock = some k → k ≠ b ∧ k < W4.heap.size := fun k e => ⟨by have := ((unhide HO4).lt k e).1; have := (unhide HF).lob; omega, ((unhide HO4).lt k e).2⟩
        have vni : ∀ k, v'.ownBlock = some k → iv.ownBlock ≠ some k := fun k e h1 => by
          rcases unhide HVL with h2 | ⟨g, h2, h3⟩
          · exact unhide HVI k (h2.symm.trans e) h1
          · have := (unhide HIB k h1).2.2
            rw [h2] at e
            have := Option.some.inj e
            omega
        have him : iv.ownBlock ≠ some m := fun e => (unhide HIB m e).2.1 rfl
        obtain ⟨S', hR', hS'⟩ := (unhide HF).add (w' := W5.setCell ⟨b, 0, none⟩ iv') s d (unhide Hd) (unhide HDS) iv' v' dv t5.size (heap_setCell_same _ _ _ _ _ _ h5b)
          (owns_at ho5 (fun k e => kb5 k (i5b k e))) (ha5.imp_right (fun e => ⟨_, e, by simp; omega⟩))
          (unhide HM4 _ (by rw [kb5 m (Ne.symm (unhide HBM)), n5 m (by omega) him]; exact unhide H4M)) (unhide HDV)
          (by rw [unhide HG, unhide HN]; exact owns_at (unhide HO4) (fun k e => by rw [kb5 k (v4b k e).1, n5 k (v4b k e).2 (vni k e)]))
          (by rw [unhide HV]; exact unhide HVL)
          (fun k e h1 => by
            rcases ha5 with h2 | h2
            · exact vni k e (h2.symm.trans h1)
            · rw [h2] at h1
              have h9 := Option.some.inj h1
              have h8 := (v4b k e).2
              rw [World.size_alloc] at h9
              omega)
          (fun k hk h1 h2 h3 h4 => t5.block k hk (by rw [unhide HT]; rw [unhide HV] at h4; exact fun h => h.elim h1 (fun h => h.elim h2 (fun h => h.elim h3 h4))))
        rw [rnoted, if_neg (unhide hnin)]
        have hb02 := unhide HB02
        refine ⟨S', ⟨_, _, _, _, _, hR'⟩, ⟨t5.os.trans hb02.os, t5.tape.trans hb02.tape, t5.output.trans hb02.output, Nat.le_trans hb02.size t5.size, fun k hk hn => ?_⟩, fun k hk => (hS' k hk).imp_right (Nat.le_trans hb02.size)⟩
        have h0 := unhide H0
        exact (t5.block k (Nat.lt_of_lt_of_le hk hb02.size) (by rw [unhide HT]; exact fun h => h.elim (fun h => hn (by rw [h]; exact h0.myb)) (fun h => h.elim (fun h => hn (by rw [h]; exact h0.mym)) (fun h => h.elim (fun h => hn (h0.myi k h)) (fun h => hn (h0.myv d (unhide Hd) k (by rw [unhide HV]; exact h))))))).trans (hb02.block k hk)
end Go.Proofs.YtaclnlmmkcjjeaaDoor

namespace Go.Proofs.YtaclnlmmkcjjeaaDoor
open Go.RowKit
set_option linter.unusedSimpArgs false
set_option linter.unusedVariables false

theorem byte256 (q : Nat) : (q : Int) % 256 = ((UInt8.ofNat q).toNat : Int) := by
  rw [UInt8.toNat_ofNat']
  show (q : Int) % 256 = ((q % 256 : Nat) : Int)
  omega
set_option maxHeartbeats 400000 in
set_option maxRecDepth 100000 in
theorem rbig_calls (n k : Nat) (hn : n < 18446744073709551616) (hk : k ≤ 8) (hk1 : 1 ≤ k) (w : World) :
    Calls Tryd.prog 25 #[.int .u64 (n : Int), .int .i64 (k : Int)] w fun e w' => e = .returned (.string (str (pBig n k))) ∧ Below w.heap.size w w' := by
  have hlen := pBig_length n k
  have hat := pBig_at n k
  generalize hP : pBig n k = P at *
  have HP := hide hP
  have Hlen := hide hlen
  have Hat := hide hat
  clear hP hlen hat
  go_enter Tryd.func25, Tryd.ntmps25
  go_wp2
  go_loopw [0, 6] (fun a i wr => ∃ j m : Nat, j ≤ k ∧ Hid (m = n / 2 ^ (8 * (k - j))) ∧ a = .int .u64 (m : Int) ∧ i = .int .i64 ((j : Int) - 1) ∧ Below w.heap.size w wr ∧ wr.heap[w.heap.size]? = some (.cells (bc (List.replicate j 0 ++ P.drop j ++ List.replicate (8 - k) 0)) 73 (0, 0))) (fun _ i _ => (intOf i + 1).toNat)
  case atStart =>
    refine ⟨k, n, Nat.le_refl _, ?_, rfl, rfl, (Below.refl _ _).alloc (Nat.le_refl _) _, ?_⟩
    · show n = _; simp
    · rw [al1, List.drop_of_length_le (by rw [unhide Hlen]; omega), List.append_nil, List.replicate_append_replicate, show k + (8 - k) = 8 by omega]; rfl
  case round =>
    obtain ⟨j, m, hj, hm, rfl, rfl, hb, q⟩ := hrel
    cases j with
    | succ j =>
      rw [show ((j + 1 : Nat) : Int) - 1 = (j : Int) by omega]
      have hd : decide ((0 : Int) ≤ (j : Int)) = true := by simp
      have hsp : List.replicate (j + 1) (0 : UInt8) ++ P.drop (j + 1) ++ List.replicate (8 - k) 0 = List.replicate j 0 ++ 0 :: (P.drop (j + 1) ++ List.replicate (8 - k) 0) := by
        rw [List.replicate_succ']; simp
      rw [hsp] at q
      have hl : (List.replicate j 0 ++ 0 :: (P.drop (j + 1) ++ List.replicate (8 - k) 0) : List UInt8).length = 8 := by simp [unhide Hlen]; omega
      have c : wr.cell? ⟨w.heap.size, j, none⟩ = some (.int .u8 (((List.replicate j 0 ++ 0 :: (P.drop (j + 1) ++ List.replicate (8 - k) 0) : List UInt8).getD j 0).toNat : Int)) := by
        rw [cell_of_row _ _ _ _ _ _ q]; exact bc_at _ _ (by omega)
      have f : wr.frozen? ⟨w.heap.size, j, none⟩ = false := frozen_of_row _ _ _ _ _ q
      have b1 : (j : Int) < 8 := by omega
      generalize hv : (List.replicate j 0 ++ 0 :: (P.drop (j + 1) ++ List.replicate (8 - k) 0) : List UInt8).getD j 0 = v at c
      obtain ⟨m2, hm2, em2⟩ : ∃ m2 : Nat, Hid (m / 256 = m2) ∧ (m : Int) / 256 = (m2 : Int) := ⟨_, rfl, by omega⟩
      have hmn : m ≤ n := by rw [unhide hm]; exact Nat.div_le_self _ _
      have wu := wu64 (m2 : Int) (by omega) (by have := unhide hm2; omega)
      have Q := hide q
      clear hl hv q hsp hmn
      go_wp2
      go_roundw
      case rel =>
        refine ⟨j, m2, by omega, ?_, rfl, by go_num, hb.setCell (by simp) _, ?_⟩
        · show m2 = _
          rw [← unhide hm2, unhide hm, Nat.div_div_eq_div_mul, show (256 : Nat) = 2 ^ 8 from rfl, ← Nat.pow_add, show 8 * (k - (j + 1)) + 8 = 8 * (k - j) by omega]
        · rw [byte256, heap_setCell_same _ _ _ _ _ _ (unhide Q), bc_set _ _ _ _ _ (by simp)]
          have e2 := unhide Hat j (by omega)
          rw [show k - 1 - j = k - (j + 1) by omega, ← unhide hm] at e2
          rw [drop_cons' P j 0 (by rw [unhide Hlen]; omega), e2]; simp
      case measure => simp [intOf]
    | zero =>
      have hd : decide ((0 : Int) ≤ (((0 : Nat) : Int) - 1)) = false := by decide
      have q' : wr.heap[w.heap.size]? = some (.cells (bc (P ++ List.replicate (8 - k) 0)) 73 (0, 0)) := by
        rw [q]; simp
      have hcv := run_convert_bytes_back (P := Tryd.prog) wr 67 9 5 ⟨w.heap.size, 0, none⟩ 8 P Tryd.underlying67 Tryd.underlying5 Tryd.underlying9 (fun j hj => by
        have hadd : (⟨w.heap.size, 0, none⟩ : Addr).add j = ⟨w.heap.size, j, none⟩ := by unfold Addr.add; split <;> simp_all
        rw [hadd, cell_of_row _ _ _ _ _ _ q', bc_at _ _ (by simp; omega)]; simp [hj, List.getElem?_append_left])
      rw [unhide Hlen] at hcv
      have b1 : (k : Int) ≤ 8 := by omega
      clear q q'
      go_wp2
      go_ret
      exact ⟨by rfl, hb⟩
theorem rtext3_calls (l : List UInt8) (hl : l.length < 4294967296) (w : World) :
    Calls Tryd.prog 26 #[.string (str l)] w fun e w' => e = .returned (.string (str (pText4 l))) ∧ Below w.heap.size w w' := by
  have hc := rbig_calls l.length 4 (by omega) (by decide) (by decide) w
  unfold pText4
  have hlen := pBig_length l.length 4
  generalize pBig l.length 4 = B at *
  have Hc := hide hc
  have ea := append_str B l
  have n1 : ¬ 9223372036854775807 < B.length + l.length := by omega
  clear hc hlen
  go_enter Tryd.func26, Tryd.ntmps26
  go_wp2_with fail
  refine (unhide Hc).mono ?_
  rintro e w' ⟨rfl, hb⟩
  go_wp2
  go_ret
  exact ⟨rfl, hb⟩
end Go.Proofs.YtaclnlmmkcjjeaaDoor

namespace Go.Proofs.YtaclnlmmkcjjeaaDoor
open Go.RowKit
set_option linter.unusedSimpArgs false
set_option linter.unusedVariables false

set_option maxHeartbeats 400000 in
theorem rturn_calls (x : BitVec 32) (n : Int) (h0 : 0 < n) (h : n < 32) (w : World) :
    Calls Tryd.prog 57 #[.int .u32 x.toNat, .int .u64 n] w fun e w' => e = .returned (.int .u32 (rotr x n.toNat).toNat) ∧ w' = w := by
  obtain ⟨m, rfl⟩ := Int.eq_ofNat_of_zero_le (Int.le_of_lt h0)
  have ht : (32 : Int) - (m : Int) = ((32 - m : Nat) : Int) := by omega
  have hw := wu64 ((32 - m : Nat) : Int) (by omega) (by omega)
  go_enter Tryd.func57, Tryd.ntmps57
  go_wp2
  go_ret
  refine ⟨?_, rfl⟩
  show Ending.returned (.int .u32 (bits BinOp.or IntKind.u32 (↑x.toNat / 2 ^ m) (↑x.toNat * 2 ^ (32 - m) % 4294967296))) = _
  rw [b_shl, b_shr, b_or, BitVec.or_comm]
  simp only [rotr, rotl, Int.toNat_natCast]
  rw [show 32 - (32 - m) = m by omega]

def rkInts : List Int := kWords.map fun x => (x.toNat : Int)
theorem rkInts_cells : (rkInts.map (Value.int .u32)).toArray = wc kWords := by simp [rkInts, wc, List.map_map, Function.comp_def]
set_option maxHeartbeats 1000000 in
set_option maxRecDepth 100000 in
theorem constants_calls (w : World) :
    Calls Tryd.prog 56 #[] w fun e w' => e = .returned (.agg (wc kWords)) ∧ Below w.heap.size w w' := by
  have hi : (Tryd.prog.info? 102).map (·.size) = some (wc kWords).size := by rw [wc_size]; kernel_rfl
  have hb : Below w.heap.size w (w.alloc (.cells (wc (List.replicate 64 0)) 102)) := (Below.refl _ _).alloc (Nat.le_refl _) _
  have hq : (w.alloc (.cells (wc (List.replicate 64 0)) 102)).heap[w.heap.size]? = some (.cells (wc (List.replicate 64 0)) 102 (0, 0)) := al1 _ _
  go_enter Tryd.func56, Tryd.ntmps56
  go_wp2_with (first
    | (refine wpList_buildFlatArr rfl 102 22 64 _ rfl .u32 rkInts Tryd.underlying102 u8w (by kernel_rfl) (by kernel_rfl) ?_; rw [rkInts_cells])
    | (refine wpList_store_row rfl 102 (.tmp 0) (.tmp 1) rfl w.heap.size _ rfl rfl 102 _ hq hi (by rw [wc_size, wc_size]; rfl) (wc_oneCell _) ?_))
  exact bodyPost_ret (results_cell_row rfl _ _ w.heap.size _ _ _ _ rfl (setRow_heap _ _ _ _ _ _ hq) Tryd.underlying102 rfl hi) rfl ⟨rfl, below_setRow hb (Nat.le_refl _) _⟩

set_option maxHeartbeats 400000 in
set_option maxRecDepth 100000 in
theorem first_calls (w : World) :
    Calls Tryd.prog 37 #[] w fun e w' => e = .returned (.agg (wc hWords)) ∧ Below w.heap.size w w' := by
  go_enter Tryd.func37, Tryd.ntmps37
  go_wp2
  exact bodyPost_ret (results_cell_row rfl _ _ w.heap.size _ _ _ _ rfl (al1 _ _) Tryd.underlying68 rfl (by kernel_rfl)) rfl ⟨rfl, (Below.refl _ _).alloc (Nat.le_refl _) _⟩
end Go.Proofs.YtaclnlmmkcjjeaaDoor

namespace Go.Proofs.YtaclnlmmkcjjeaaDoor
open Go.RowKit
set_option linter.unusedSimpArgs false
set_option linter.unusedVariables false

/-- What the block's walk keeps: the words, the result, the constants, the schedule so far. -/
structure Fr (w : World) (G : Nat) (xs ws : List (BitVec 32)) (wr : World) : Prop where
  below : Below w.heap.size w wr
  size : G + 1 < wr.heap.size
  h : wr.heap[w.heap.size]? = some (.cells (wc xs) 68 (0, 0))
  r : wr.heap[w.heap.size + 1]? = some (.cells (wc (List.replicate 8 0)) 68 (0, 0))
  k : wr.heap[G]? = some (.cells (wc kWords) 102 (0, 0))
  s : wr.heap[G + 1]? = some (.cells (wc ws) 102 (0, 0))
theorem Fr.drewN {w wr : World} {G : Nat} {xs ws : List (BitVec 32)} (h : Fr w G xs ws wr) (n : Nat) : Fr w G xs ws (wr.drewN n) :=
  ⟨below_drewN h.below n, h.size, h.h, h.r, h.k, h.s⟩
theorem Fr.set {w wr : World} {G : Nat} {xs ws zs : List (BitVec 32)} {z : BitVec 32} (h : Fr w G xs (ws ++ z :: zs) wr) (hG : w.heap.size + 1 + 1 ≤ G) (i : Nat) (hi : i = ws.length) (x : BitVec 32) :
    Fr w G xs (ws ++ [x] ++ zs) (wr.setCell ⟨G + 1, i, none⟩ (.int .u32 (x.toNat : Int))) := by
  refine ⟨h.below.setCell (by show w.heap.size ≤ G + 1; omega) _, by simpa using h.size, ?_, ?_, ?_, ?_⟩
  · rw [heap_setCell_other _ _ _ _ (by show _ ≠ G + 1; omega)]; exact h.h
  · rw [heap_setCell_other _ _ _ _ (by show _ ≠ G + 1; omega)]; exact h.r
  · rw [heap_setCell_other _ _ _ _ (by show _ ≠ G + 1; omega)]; exact h.k
  · rw [heap_setCell_same _ _ _ _ _ _ h.s, wc_set _ _ _ _ _ hi]

theorem f_smallZero (x : BitVec 32) : bits BinOp.xor IntKind.u32 (bits BinOp.xor IntKind.u32 ((rotr x 7).toNat : Int) ((rotr x 18).toNat : Int)) ((x.toNat : Int) / 8) = ((pSmallZero x).toNat : Int) := by
  rw [show (x.toNat : Int) / (8 : Int) = ((x >>> 3).toNat : Int) from b_shr x 3, b_xor, b_xor]; rfl
theorem f_smallOne (x : BitVec 32) : bits BinOp.xor IntKind.u32 (bits BinOp.xor IntKind.u32 ((rotr x 17).toNat : Int) ((rotr x 19).toNat : Int)) ((x.toNat : Int) / 1024) = ((pSmallOne x).toNat : Int) := by
  rw [show (x.toNat : Int) / (1024 : Int) = ((x >>> 10).toNat : Int) from b_shr x 10, b_xor, b_xor]; rfl
theorem f_bigZero (x : BitVec 32) : bits BinOp.xor IntKind.u32 (bits BinOp.xor IntKind.u32 ((rotr x 2).toNat : Int) ((rotr x 13).toNat : Int)) ((rotr x 22).toNat : Int) = ((pBigZero x).toNat : Int) := by
  rw [b_xor, b_xor]; rfl
theorem f_bigOne (x : BitVec 32) : bits BinOp.xor IntKind.u32 (bits BinOp.xor IntKind.u32 ((rotr x 6).toNat : Int) ((rotr x 11).toNat : Int)) ((rotr x 25).toNat : Int) = ((pBigOne x).toNat : Int) := by
  rw [b_xor, b_xor]; rfl
theorem f_choice (x y z : BitVec 32) : bits BinOp.xor IntKind.u32 (bits BinOp.and IntKind.u32 (x.toNat : Int) (y.toNat : Int)) (bits BinOp.and IntKind.u32 (bits BinOp.xor IntKind.u32 4294967295 (x.toNat : Int)) (z.toNat : Int)) = ((pChoice x y z).toNat : Int) := by
  rw [show (4294967295 : Int) = IntKind.u32.max from by decide, b_not, b_and, b_and, b_xor]; rfl
theorem f_majority (x y z : BitVec 32) : bits BinOp.xor IntKind.u32 (bits BinOp.xor IntKind.u32 (bits BinOp.and IntKind.u32 (x.toNat : Int) (y.toNat : Int)) (bits BinOp.and IntKind.u32 (x.toNat : Int) (z.toNat : Int))) (bits BinOp.and IntKind.u32 (y.toNat : Int) (z.toNat : Int)) = ((pMajority x y z).toNat : Int) := by
  rw [b_and, b_and, b_and, b_xor, b_xor]; rfl

set_option maxHeartbeats 2000000 in
set_option maxRecDepth 100000 in
theorem rblock_calls (st : S8) (gb off cap : Nat) (l : List UInt8) (hl : l.length = 64) (hc : 64 ≤ cap) (w : World) (hg : gb < w.heap.size) (hs : Bytes w gb off l) :
    Calls Tryd.prog 51 #[.agg st.cells, .slice (some ⟨gb, off, none⟩) 64 cap] w fun e w' => e = .returned (.agg (pBlock st l).cells) ∧ Below w.heap.size w w' := by
  generalize hP : pBlock st l = PB
  have HP := hide hP
  clear hP
  obtain ⟨a, b, c, d, e, f, g, h⟩ := st
  have hargs : (S8.mk a b c d e f g h).cells = #[.int .u32 (a.toNat : Int), .int .u32 (b.toNat : Int), .int .u32 (c.toNat : Int), .int .u32 (d.toNat : Int), .int .u32 (e.toNat : Int), .int .u32 (f.toNat : Int), .int .u32 (g.toNat : Int), .int .u32 (h.toNat : Int)] := rfl
  rw [hargs]
  clear hargs
  have Hl := hide hl
  clear hl
  go_enter Tryd.func51, Tryd.ntmps51
  go_wp2_with fail
  refine (constants_calls _).mono ?_
  rintro en w1 ⟨rfl, hb1⟩
  have hz1 : w.heap.size + 1 + 1 ≤ w1.heap.size := by have := hb1.size; simpa using this
  have q0 : w1.heap[w.heap.size]? = some (.cells (wc [a, b, c, d, e, f, g, h]) 68 (0, 0)) := Below.at hb1 (by simp; omega) (al2 _ _ _).1
  have q1 : w1.heap[w.heap.size + 1]? = some (.cells (wc (List.replicate 8 0)) 68 (0, 0)) := Below.at hb1 (by simp) (al2 _ _ _).2
  have hb : Below w.heap.size w w1 := (bel2 _ _ _).trans (hb1.mono (by simp; omega))
  clear hb1
  have hs1 := hs.below hb hg
  have hik : (Tryd.prog.info? 102).map (·.size) = some (wc kWords).size := by rw [wc_size]; kernel_rfl
  have qk0 : (w1.alloc (.cells (wc (List.replicate 64 0)) 102)).heap[w1.heap.size]? = some (.cells (wc (List.replicate 64 0)) 102 (0, 0)) := al1 _ _
  go_wp2_with (refine wpList_store_row rfl 102 (.tmp 5) (.tmp 26) rfl w1.heap.size _ rfl rfl 102 _ qk0 hik (by rw [wc_size, wc_size]; rfl) (wc_oneCell _) ?_)
  obtain ⟨W, hW⟩ : ∃ W, W = ((w1.alloc (.cells (wc (List.replicate 64 0)) 102)).setRow w1.heap.size (wc kWords)).alloc (.cells (wc (List.replicate 64 0)) 102) := ⟨_, rfl⟩
  change Code.wp _ _ _ _ (((w1.alloc (.cells (wc (List.replicate 64 0)) 102)).setRow w1.heap.size (wc kWords)).alloc (.cells (wc (List.replicate 64 0)) 102))
  rw [← hW]
  have fr : Fr w w1.heap.size [a, b, c, d, e, f, g, h] (sched16 l 0 ++ List.replicate (64 - 0) 0) W := by
    have z2 : ((w1.alloc (.cells (wc (List.replicate 64 0)) 102)).setRow w1.heap.size (wc kWords)).heap.size = w1.heap.size + 1 := by rw [setRow_size]; simp
    refine ⟨?_, ?_, ?_, ?_, ?_, ?_⟩
    · rw [hW]; exact (below_setRow (hb.alloc (by omega) _) (by omega) _).alloc (by omega) _
    · rw [hW]; simp
    · rw [hW, Below.heap_alloc _ _ _ (by omega), setRow_other _ _ _ _ (by omega), Below.heap_alloc _ _ _ (by omega)]; exact q0
    · rw [hW, Below.heap_alloc _ _ _ (by omega), setRow_other _ _ _ _ (by omega), Below.heap_alloc _ _ _ (by omega)]; exact q1
    · rw [hW, Below.heap_alloc _ _ _ (by omega)]; exact setRow_heap _ _ _ _ _ _ qk0
    · rw [hW, ← z2]; exact al1 _ _
  have hsW : Bytes W gb off l := hs.below fr.below hg
  clear hW qk0 hik hs1 hb q0 q1
  generalize w1.heap.size = G at *
  clear w1
  go_loopw [7] (fun i wr => ∃ k : Nat, k ≤ 16 ∧ i = .int .i64 k ∧ Fr w G [a, b, c, d, e, f, g, h] (sched16 l k ++ List.replicate (64 - k) 0) wr) (fun i _ => 16 - (intOf i).toNat)
  case atStart => exact ⟨0, by omega, rfl, fr⟩
  case round =>
    clear fr hsW
    obtain ⟨k, hk, rfl, fr⟩ := hrel
    by_cases hlt : k < 16
    · have hb := hs.below fr.below hg
      have hl := unhide Hl
      obtain ⟨n, Hn, en⟩ : ∃ n : Nat, Hid (4 * k = n) ∧ (4 : Int) * (k : Int) = (n : Int) := ⟨4 * k, rfl, by omega⟩
      have hn := unhide Hn
      have b0 := hb n (by omega)
      have b1 := hb (n + 1) (by omega)
      have b2 := hb (n + 2) (by omega)
      have b3 := hb (n + 3) (by omega)
      obtain ⟨x0, e0, c0⟩ : ∃ x : UInt8, Hid (l.getD n 0 = x) ∧ wr.cell? ⟨gb, off + n, none⟩ = some (.int .u8 (x.toNat : Int)) := ⟨_, rfl, b0⟩
      obtain ⟨x1, e1, c1⟩ : ∃ x : UInt8, Hid (l.getD (n + 1) 0 = x) ∧ wr.cell? ⟨gb, off + (n + 1), none⟩ = some (.int .u8 (x.toNat : Int)) := ⟨_, rfl, b1⟩
      obtain ⟨x2, e2, c2⟩ : ∃ x : UInt8, Hid (l.getD (n + 2) 0 = x) ∧ wr.cell? ⟨gb, off + (n + 2), none⟩ = some (.int .u8 (x.toNat : Int)) := ⟨_, rfl, b2⟩
      obtain ⟨x3, e3, c3⟩ : ∃ x : UInt8, Hid (l.getD (n + 3) 0 = x) ∧ wr.cell? ⟨gb, off + (n + 3), none⟩ = some (.int .u8 (x.toNat : Int)) := ⟨_, rfl, b3⟩
      have i0 : (0:Int) ≤ n ∧ (n : Int) < 64 := by omega
      have i1 : (0:Int) ≤ n + 1 ∧ (n : Int) + 1 < 64 := by omega
      have i2 : (0:Int) ≤ n + 2 ∧ (n : Int) + 2 < 64 := by omega
      have i3 : (0:Int) ≤ n + 3 ∧ (n : Int) + 3 < 64 := by omega
      have w0 := wi64 n (by omega) (by omega)
      have w1 := wi64 (n + 1) (by omega) (by omega)
      have w2 := wi64 (n + 2) (by omega) (by omega)
      have w3 := wi64 (n + 3) (by omega) (by omega)
      have t1 : ((n : Int) + 1).toNat = n + 1 := by omega
      have t2 : ((n : Int) + 2).toNat = n + 2 := by omega
      have t3 : ((n : Int) + 3).toNat = n + 3 := by omega
      have ik : (0:Int) ≤ k ∧ (k : Int) < 64 := by omega
      have hlen : (sched16 l k ++ List.replicate (64 - k) (0 : BitVec 32)).length = 64 := by simp [sched16_length]; omega
      have cs : wr.cell? ⟨G + 1, k, none⟩ = some (.int .u32 (((sched16 l k ++ List.replicate (64 - k) (0 : BitVec 32)).getD k 0).toNat : Int)) := by
        rw [cell_of_row _ _ _ _ _ _ fr.s]; exact wc_at _ _ (by rw [hlen]; omega)
      have fz : wr.frozen? ⟨G + 1, k, none⟩ = false := frozen_of_row _ _ _ _ _ fr.s
      clear hl hn hb b0 b1 b2 b3 hlen
      go_wp2
      refine wp_region_still_tail 35 mixed (by kernel_rfl) ?_
      simp only [List.take_succ_cons, List.take_zero, List.drop_succ_cons, List.drop_zero]
      iterate 35 still_step
      refine wpStill_nil ?_
      go_wp2
      go_roundw
      case rel =>
        refine ⟨k + 1, by omega, by go_num, ?_⟩
        have e : List.replicate (64 - k) (0 : BitVec 32) = 0 :: List.replicate (64 - (k + 1)) 0 := by rw [show 64 - k = (64 - (k + 1)) + 1 by omega]; rfl
        rw [e] at fr
        have hx : wAt l (4 * k) = word x0 x1 x2 x3 := by unfold wAt; rw [unhide Hn, unhide e0, unhide e1, unhide e2, unhide e3]
        rw [sched16_succ, hx]
        refine Eq.mp (congrArg (fun z => Fr w G _ _ (World.setCell _ _ (.int .u32 z))) ?_) ((fr.drewN 1).set hz1 k (sched16_length _ _).symm (word x0 x1 x2 x3))
        rw [word_toNat]
        have := x0.toNat_lt; have := x1.toNat_lt; have := x2.toNat_lt; have := x3.toNat_lt
        omega
      case measure => simp [intOf]; omega
    · have fr0 : Fr w G [a, b, c, d, e, f, g, h] (schedN l 0 ++ List.replicate (48 - 0) 0) wr := by
        have := fr; rw [show k = 16 by omega] at this; exact this
      have hd : decide ((k : Int) < 16) = false := by simp; omega
      clear fr
      go_wp2
      go_loopw [8] (fun i wr => ∃ k : Nat, k ≤ 48 ∧ i = .int .i64 (16 + k : Nat) ∧ Fr w G [a, b, c, d, e, f, g, h] (schedN l k ++ List.replicate (48 - k) 0) wr) (fun i _ => 64 - (intOf i).toNat)
      case atStart => exact ⟨0, by omega, rfl, fr0⟩
      case round =>
        clear fr0
        obtain ⟨k, hk, rfl, fr⟩ := hrel
        by_cases hlt : k < 48
        · generalize hn : 16 + k = n
          have hlen : (schedN l k ++ List.replicate (48 - k) (0 : BitVec 32)).length = 64 := by simp [schedN_length]; omega
          have hcell : ∀ j, j < 64 → wr.cell? ⟨G + 1, j, none⟩ = some (.int .u32 (((schedN l k ++ List.replicate (48 - k) (0 : BitVec 32)).getD j 0).toNat : Int)) := fun j hj => by
            rw [cell_of_row _ _ _ _ _ _ fr.s]; exact wc_at _ _ (by rw [hlen]; omega)
          have hget : ∀ j, j < n → ∃ x : BitVec 32, Hid ((schedN l k).getD j 0 = x) ∧ wr.cell? ⟨G + 1, j, none⟩ = some (.int .u32 (x.toNat : Int)) := fun j hj =>
            ⟨_, rfl, by rw [hcell j (by omega), List.getD_eq_getElem?_getD, List.getElem?_append_left (by rw [schedN_length]; omega), ← List.getD_eq_getElem?_getD]⟩
          have hfz : wr.frozen? ⟨G + 1, n, none⟩ = false := frozen_of_row _ _ _ _ _ fr.s
          have c0 := hcell n (by omega)
          obtain ⟨x2, e2, c2⟩ := hget (n - 2) (by omega)
          obtain ⟨x7, e7, c7⟩ := hget (n - 7) (by omega)
          obtain ⟨x15, e15, c15⟩ := hget (n - 15) (by omega)
          obtain ⟨x16, e16, c16⟩ := hget (n - 16) (by omega)
          have am := a_mod
          have aw := a_wrap
          have b0 : (0:Int) ≤ n ∧ (n : Int) < 64 := by omega
          have b2 : (2:Int) ≤ n ∧ (n : Int) - 2 < 64 := by omega
          have t2 : ((n : Int) - 2).toNat = n - 2 := by omega
          have b7 : (7:Int) ≤ n ∧ (n : Int) - 7 < 64 := by omega
          have t7 : ((n : Int) - 7).toNat = n - 7 := by omega
          have b15 : (15:Int) ≤ n ∧ (n : Int) - 15 < 64 := by omega
          have t15 : ((n : Int) - 15).toNat = n - 15 := by omega
          have b16 : (16:Int) ≤ n ∧ (n : Int) - 16 < 64 := by omega
          have t16 : ((n : Int) - 16).toNat = n - 16 := by omega
          have w2 := wi64 (n - 2) (by omega) (by omega)
          have w7 := wi64 (n - 7) (by omega) (by omega)
          have w15 := wi64 (n - 15) (by omega) (by omega)
          have w16 := wi64 (n - 16) (by omega) (by omega)
          have sz := f_smallZero x15
          have so := f_smallOne x2
          have Hn := hide hn
          clear hn hcell hget hlen
          go_wp2
          go_quiet ((first | (go_at_call 57; exact Calls.quiet_of_same (rturn_calls _ _ (by omega) (by omega) _))))
          go_wp2
          generalize hv2 : wr.drewN nq = v2
          have hc2 : ∀ p, v2.cell? p = wr.cell? p := fun p => by rw [← hv2]; rfl
          have Hv2 := hide hv2
          clear hv2
          go_quiet ((first | (go_at_call 57; exact Calls.quiet_of_same (rturn_calls _ _ (by omega) (by omega) _))))
          go_wp2
          have fr3 : Fr w G [a, b, c, d, e, f, g, h] (schedN l k ++ List.replicate (48 - k) 0) (v2.drewN nq) := by rw [← unhide Hv2]; exact (fr.drewN _).drewN _
          have hc3 : ∀ p, (v2.drewN nq).cell? p = wr.cell? p := hc2
          have hz3 : (v2.drewN nq).frozen? ⟨G + 1, n, none⟩ = false := frozen_of_row _ _ _ _ _ fr3.s
          generalize v2.drewN nq = v3 at *
          clear hc2 Hv2 fr
          refine wp_region_still_tail 15 mixed (by kernel_rfl) ?_
          simp only [List.take_succ_cons, List.take_zero, List.drop_succ_cons, List.drop_zero]
          iterate 15 still_step
          refine wpStill_nil ?_
          go_wp2
          go_roundw
          case rel =>
            have hn := unhide Hn
            have hx : schedNext (schedN l k) = addw (addw (addw x16 (pSmallZero x15)) x7) (pSmallOne x2) := by
              unfold schedNext; rw [schedN_length, hn, unhide e2, unhide e7, unhide e15, unhide e16]
              simp only [addw]; ac_rfl
            refine ⟨k + 1, by omega, by rw [← hn]; go_num, ?_⟩
            have e : List.replicate (48 - k) (0 : BitVec 32) = 0 :: List.replicate (48 - (k + 1)) 0 := by rw [show 48 - k = (48 - (k + 1)) + 1 by omega]; rfl
            rw [e] at fr3
            show Fr w G _ ((schedN l k ++ [schedNext (schedN l k)]) ++ _) _
            rw [hx]
            exact (fr3.drewN 1).set hz1 n (by rw [schedN_length]; omega) _
          case measure => simp [intOf]; omega
        · have frS : Fr w G [a, b, c, d, e, f, g, h] (sched l) wr := by
            have := fr; rw [show k = 48 by omega] at this; simpa [sched] using this
          have hd2 : decide (((16 + k : Nat) : Int) < 64) = false := by simp; omega
          have q0 := frS.h
          have c0 : wr.cell? ⟨w.heap.size, 0, none⟩ = some (.int .u32 (a.toNat : Int)) := cell_of_row _ _ _ _ _ _ q0
          have c1 : wr.cell? ⟨w.heap.size, 1, none⟩ = some (.int .u32 (b.toNat : Int)) := cell_of_row _ _ _ _ _ _ q0
          have c2 : wr.cell? ⟨w.heap.size, 2, none⟩ = some (.int .u32 (c.toNat : Int)) := cell_of_row _ _ _ _ _ _ q0
          have c3 : wr.cell? ⟨w.heap.size, 3, none⟩ = some (.int .u32 (d.toNat : Int)) := cell_of_row _ _ _ _ _ _ q0
          have c4 : wr.cell? ⟨w.heap.size, 4, none⟩ = some (.int .u32 (e.toNat : Int)) := cell_of_row _ _ _ _ _ _ q0
          have c5 : wr.cell? ⟨w.heap.size, 5, none⟩ = some (.int .u32 (f.toNat : Int)) := cell_of_row _ _ _ _ _ _ q0
          have c6 : wr.cell? ⟨w.heap.size, 6, none⟩ = some (.int .u32 (g.toNat : Int)) := cell_of_row _ _ _ _ _ _ q0
          have c7 : wr.cell? ⟨w.heap.size, 7, none⟩ = some (.int .u32 (h.toNat : Int)) := cell_of_row _ _ _ _ _ _ q0
          clear q0 fr
          go_wp2
          go_quiet (fail)
          go_wp2
          have frN := frS.drewN nq
          generalize wr.drewN nq = v at *
          clear c0 c1 c2 c3 c4 c5 c6 c7 frS hd2 hd
          go_loopw [11, 12, 13, 14, 15, 16, 17, 18, 19] (fun y0 y1 y2 y3 y4 y5 y6 y7 i wr => ∃ (k : Nat) (r0 r1 r2 r3 r4 r5 r6 r7 : BitVec 32), k ≤ 64 ∧ i = .int .i64 k ∧ y0 = .int .u32 (r0.toNat : Int) ∧ y1 = .int .u32 (r1.toNat : Int) ∧ y2 = .int .u32 (r2.toNat : Int) ∧ y3 = .int .u32 (r3.toNat : Int) ∧ y4 = .int .u32 (r4.toNat : Int) ∧ y5 = .int .u32 (r5.toNat : Int) ∧ y6 = .int .u32 (r6.toNat : Int) ∧ y7 = .int .u32 (r7.toNat : Int) ∧ Hid (pRounds (sched l) ⟨a, b, c, d, e, f, g, h⟩ k = ⟨r0, r1, r2, r3, r4, r5, r6, r7⟩) ∧ Fr w G [a, b, c, d, e, f, g, h] (sched l) wr) (fun _ _ _ _ _ _ _ _ i _ => 64 - (intOf i).toNat)
          case atStart => exact ⟨0, a, b, c, d, e, f, g, h, by omega, rfl, rfl, rfl, rfl, rfl, rfl, rfl, rfl, rfl, rfl, frN⟩
          case round =>
            clear frN
            obtain ⟨k, r0, r1, r2, r3, r4, r5, r6, r7, hk, rfl, rfl, rfl, rfl, rfl, rfl, rfl, rfl, rfl, Hr, fr⟩ := hrel
            by_cases hlt : k < 64
            · obtain ⟨xk, ek, ck⟩ : ∃ x : BitVec 32, Hid (kWords.getD k 0 = x) ∧ wr.cell? ⟨G, k, none⟩ = some (.int .u32 (x.toNat : Int)) := ⟨_, rfl, by rw [cell_of_row _ _ _ _ _ _ fr.k]; exact wc_at _ _ hlt⟩
              obtain ⟨xw, ew, cw⟩ : ∃ x : BitVec 32, Hid ((sched l).getD k 0 = x) ∧ wr.cell? ⟨G + 1, k, none⟩ = some (.int .u32 (x.toNat : Int)) := ⟨_, rfl, by rw [cell_of_row _ _ _ _ _ _ fr.s]; exact wc_at _ _ (by rw [sched_length]; exact hlt)⟩
              have bk : (0:Int) ≤ k ∧ (k : Int) < 64 := by omega
              have am := a_mod
              have aw := a_wrap
              have f1 := f_bigOne r4
              have f2 := f_choice r4 r5 r6
              have f3 := f_bigZero r0
              have f4 := f_majority r0 r1 r2
              go_wp2
              go_quiet ((first | (go_at_call 57; exact Calls.quiet_of_same (rturn_calls _ _ (by omega) (by omega) _))))
              have fr2 := fr.drewN nq
              generalize wr.drewN nq = v2 at *
              clear ck cw
              go_wp2_with (go_at_call 57; refine (rturn_calls _ _ (by omega) (by omega) _).mono ?_; rintro en w' ⟨rfl, rfl⟩)
              refine ⟨?_, ?measure⟩
              (repeat apply Exists.intro)
              refine ⟨?rel, rfl⟩
              case rel =>
                refine ⟨k + 1, _, _, _, _, _, _, _, _, by omega, by go_num, rfl, rfl, rfl, rfl, rfl, rfl, rfl, rfl, ?_, fr2⟩
                show pRound _ _ (pRounds _ _ k) = _
                rw [unhide Hr, unhide ek, unhide ew]
                rfl
              case measure => simp [intOf]; omega
            · have er : PB = (S8.mk a b c d e f g h).add ⟨r0, r1, r2, r3, r4, r5, r6, r7⟩ := by
                rw [← unhide HP, pBlock, if_pos (unhide Hl), ← unhide Hr, show k = 64 by omega]
              have q0 := fr.h
              have q1 := fr.r
              have c0 : wr.cell? ⟨w.heap.size, 0, none⟩ = some (.int .u32 (a.toNat : Int)) := cell_of_row _ _ _ _ _ _ q0
              have c1 : wr.cell? ⟨w.heap.size, 1, none⟩ = some (.int .u32 (b.toNat : Int)) := cell_of_row _ _ _ _ _ _ q0
              have c2 : wr.cell? ⟨w.heap.size, 2, none⟩ = some (.int .u32 (c.toNat : Int)) := cell_of_row _ _ _ _ _ _ q0
              have c3 : wr.cell? ⟨w.heap.size, 3, none⟩ = some (.int .u32 (d.toNat : Int)) := cell_of_row _ _ _ _ _ _ q0
              have c4 : wr.cell? ⟨w.heap.size, 4, none⟩ = some (.int .u32 (e.toNat : Int)) := cell_of_row _ _ _ _ _ _ q0
              have c5 : wr.cell? ⟨w.heap.size, 5, none⟩ = some (.int .u32 (f.toNat : Int)) := cell_of_row _ _ _ _ _ _ q0
              have c6 : wr.cell? ⟨w.heap.size, 6, none⟩ = some (.int .u32 (g.toNat : Int)) := cell_of_row _ _ _ _ _ _ q0
              have c7 : wr.cell? ⟨w.heap.size, 7, none⟩ = some (.int .u32 (h.toNat : Int)) := cell_of_row _ _ _ _ _ _ q0
              have hd3 : decide ((k : Int) < 64) = false := by simp; omega
              have am := a_mod
              have aw := a_wrap
              have hi : (Tryd.prog.info? 68).map (·.size) = some ((S8.mk a b c d e f g h).add ⟨r0, r1, r2, r3, r4, r5, r6, r7⟩).cells.size := by show _ = some 8; kernel_rfl
              have ho1 : ((S8.mk a b c d e f g h).add ⟨r0, r1, r2, r3, r4, r5, r6, r7⟩).cells.all (·.oneCell') = true := wc_oneCell _
              have Her := hide er
              have Q0 := hide q0
              clear er q0
              go_wp2_with (refine wpList_store_row rfl 68 (.tmp 4) (.tmp 230) rfl (w.heap.size + 1) ((S8.mk a b c d e f g h).add ⟨r0, r1, r2, r3, r4, r5, r6, r7⟩).cells rfl rfl 68 _ q1 hi rfl ho1 ?_)
              exact bodyPost_ret (results_cell_row rfl _ _ (w.heap.size + 1) _ _ _ _ rfl (setRow_heap _ _ _ _ _ _ q1) Tryd.underlying68 rfl hi) rfl ⟨by rw [unhide Her], below_setRow fr.below (by simp) _⟩

set_option maxHeartbeats 400000 in
set_option maxRecDepth 100000 in
theorem rblock_other (st : S8) (gb off cap n : Nat) (hn : n ≠ 64) (hm : n ≤ maxLen) (w : World) :
    Calls Tryd.prog 51 #[.agg st.cells, .slice (some ⟨gb, off, none⟩) n cap] w fun e w' => e = .returned (.agg st.cells) ∧ Below w.heap.size w w' := by
  have hne : ((n : Int) != 64) = true := by simp; omega
  obtain ⟨a, b, c, d, e, f, g, h⟩ := st
  simp only [S8.cells, S8.list, wc, List.map]
  go_enter Tryd.func51, Tryd.ntmps51
  go_wp2
  exact bodyPost_ret (results_cell_row rfl _ _ (w.heap.size + 1) _ _ _ _ rfl (heap_alloc2_new _ _ _) Tryd.underlying68 rfl (by kernel_rfl)) rfl ⟨rfl, ((Below.refl _ _).alloc (Nat.le_refl _) _).alloc (by simp) _⟩
/-- Whatever the length. -/
theorem rblock_any (st : S8) (gb off cap : Nat) (l : List UInt8) (hc : l.length ≤ cap) (hm : l.length ≤ maxLen) (w : World) (hg : gb < w.heap.size) (hs : Bytes w gb off l) :
    Calls Tryd.prog 51 #[.agg st.cells, .slice (some ⟨gb, off, none⟩) l.length cap] w fun e w' => e = .returned (.agg (pBlock st l).cells) ∧ Below w.heap.size w w' := by
  by_cases h : l.length = 64
  · have := rblock_calls st gb off cap l h (by omega) w hg hs
    rw [h]; exact this
  · have := rblock_other st gb off cap l.length h hm w
    rw [pBlock, if_neg h]; exact this
theorem block_any (st : S8) (l : List UInt8) (hm : l.length ≤ maxLen) (w : World) (tabs : Tabs w) :
    Calls Tryd.prog 59 #[.agg st.cells, .string ⟨l.toArray⟩] w fun e w' => e = .returned (.agg (pBlock st l).cells) ∧ Below w.heap.size w w' := by
  have hz : (⟨l.toArray⟩ : ByteArray).size = l.length := by simp [ByteArray.size]
  by_cases h : l.length = 64
  · have := block_calls st ⟨l.toArray⟩ (by rw [hz]; exact h) w tabs
    simpa using this
  · have := block_other st ⟨l.toArray⟩ (by rw [hz]; exact h) (by rw [hz]; exact hm) w
    rw [pBlock, if_neg h]; exact this
end Go.Proofs.YtaclnlmmkcjjeaaDoor

namespace Go.Proofs.YtaclnlmmkcjjeaaDoor
open Go.RowKit
set_option linter.unusedSimpArgs false
set_option linter.unusedVariables false

set_option maxHeartbeats 400000 in
set_option maxRecDepth 100000 in
theorem after_calls (st : S8) (l : List UInt8) (gb off cap : Nat) (hl : l.length ≤ cap) (hc : cap ≤ maxLen) (w : World) (hg : gb < w.heap.size) (hs : Bytes w gb off l) :
    Calls Tryd.prog 36 #[.agg st.cells, .slice (some ⟨gb, off, none⟩) l.length cap] w fun e w' => ∃ off' cap', e = .returned (.tuple #[.agg (pThrough st l).1.cells, .slice (some ⟨gb, off', none⟩) (pThrough st l).2.length cap']) ∧ (pThrough st l).2.length ≤ cap' ∧ cap' ≤ cap ∧ Bytes w' gb off' (pThrough st l).2 ∧ Below w.heap.size w w' := by
  obtain ⟨a, b, c, d, e, f, g, h⟩ := st
  unfold maxLen at hc
  generalize hT : pThrough ⟨a, b, c, d, e, f, g, h⟩ l = T
  simp only [S8.cells, S8.list, wc, List.map]
  have HT := hide hT
  clear hT
  go_enter Tryd.func36, Tryd.ntmps36
  go_wp2
  go_loopw [1] (fun t wr => ∃ (m : List UInt8) (s : S8) (off' cap' : Nat), t = .slice (some ⟨gb, off', none⟩) m.length cap' ∧ m.length ≤ cap' ∧ cap' ≤ cap ∧ m.length ≤ l.length ∧ Bytes w gb off' m ∧ Hid (pThrough s m = T) ∧ Below w.heap.size w wr ∧ w.heap.size + 1 + 1 ≤ wr.heap.size ∧ wr.heap[w.heap.size]? = some (.cells s.cells 68 (0, 0)) ∧ wr.heap[w.heap.size + 1]? = some (.cells (wc (List.replicate 8 0)) 68 (0, 0))) (fun t _ => match t with | .slice _ n _ => n | _ => 0)
  case atStart => exact ⟨l, ⟨a, b, c, d, e, f, g, h⟩, off, cap, rfl, hl, Nat.le_refl _, Nat.le_refl _, hs, HT, bel2 _ _ _, by simp, (al2 _ _ _).1, (al2 _ _ _).2⟩
  case round =>
    obtain ⟨m, s, off', cap', rfl, hmc, hcc, hm, hsm, hS, hb, hB, q0, q1⟩ := hrel
    by_cases hlt : 64 ≤ m.length
    · have hge : decide ((64 : Int) ≤ ((m.length : Nat) : Int)) = true := by simp; omega
      obtain ⟨s0, s1, s2, s3, s4, s5, s6, s7⟩ := s
      have c0 : wr.cell? ⟨w.heap.size, 0, none⟩ = some (.int .u32 (s0.toNat : Int)) := cell_of_row _ _ _ _ _ _ q0
      have c1 : wr.cell? ⟨w.heap.size, 1, none⟩ = some (.int .u32 (s1.toNat : Int)) := cell_of_row _ _ _ _ _ _ q0
      have c2 : wr.cell? ⟨w.heap.size, 2, none⟩ = some (.int .u32 (s2.toNat : Int)) := cell_of_row _ _ _ _ _ _ q0
      have c3 : wr.cell? ⟨w.heap.size, 3, none⟩ = some (.int .u32 (s3.toNat : Int)) := cell_of_row _ _ _ _ _ _ q0
      have c4 : wr.cell? ⟨w.heap.size, 4, none⟩ = some (.int .u32 (s4.toNat : Int)) := cell_of_row _ _ _ _ _ _ q0
      have c5 : wr.cell? ⟨w.heap.size, 5, none⟩ = some (.int .u32 (s5.toNat : Int)) := cell_of_row _ _ _ _ _ _ q0
      have c6 : wr.cell? ⟨w.heap.size, 6, none⟩ = some (.int .u32 (s6.toNat : Int)) := cell_of_row _ _ _ _ _ _ q0
      have c7 : wr.cell? ⟨w.heap.size, 7, none⟩ = some (.int .u32 (s7.toNat : Int)) := cell_of_row _ _ _ _ _ _ q0
      have b64 : (64 : Int) ≤ (m.length : Int) := by omega
      have d64 : (64 : Int) ≤ (cap' : Int) := by omega
      have d64' : 64 ≤ cap' := by omega
      go_wp2
      refine wp_region_still_tail 3 mixed (by kernel_rfl) ?_
      simp only [List.take_succ_cons, List.take_zero, List.drop_succ_cons, List.drop_zero]
      iterate 3 still_step
      refine wpStill_nil ?_
      have q0d : wr.drew.heap[w.heap.size]? = some (.cells (S8.mk s0 s1 s2 s3 s4 s5 s6 s7).cells 68 (0, 0)) := q0
      show wpList _ _ _ _ _ wr.drew
      go_wp2_with fail
      refine (rblock_calls ⟨s0, s1, s2, s3, s4, s5, s6, s7⟩ gb off' cap' (m.take 64) (by simp; omega) d64' _ (by show gb < wr.heap.size; omega) ((hsm.below hb.drew hg).take 64)).mono ?_
      rintro en w1 ⟨rfl, hb1⟩
      have q0' : w1.heap[w.heap.size]? = some (.cells (S8.mk s0 s1 s2 s3 s4 s5 s6 s7).cells 68 (0, 0)) := Below.at hb1 (by show w.heap.size < wr.heap.size; omega) q0
      have q1' : w1.heap[w.heap.size + 1]? = some (.cells (wc (List.replicate 8 0)) 68 (0, 0)) := Below.at hb1 (by show w.heap.size + 1 < wr.heap.size; omega) q1
      generalize hpb : pBlock ⟨s0, s1, s2, s3, s4, s5, s6, s7⟩ (m.take 64) = pb
      have hib : (Tryd.prog.info? 68).map (·.size) = some pb.cells.size := by show _ = some 8; kernel_rfl
      have ho1 : pb.cells.all (·.oneCell') = true := wc_oneCell _
      have Hpb := hide hpb
      clear hpb
      have z1 := hb1.size
      go_wp2_with (refine wpList_store_row rfl 68 (.tmp 2) (.tmp 12) rfl w.heap.size _ rfl rfl 68 _ q0' hib rfl ho1 ?_)
      go_roundw
      case rel =>
        refine ⟨m.drop 64, pb, if cap' = 64 then off' else off' + 64, cap' - 64, by by_cases hz : cap' = 64 <;> simp [hz], by simp; omega, by omega, by simp; omega, ?bytes, ?_, below_setRow ((hb.drew).trans (hb1.mono (by show w.heap.size ≤ wr.heap.size; omega))) (Nat.le_refl _) _, ?_, setRow_heap _ _ _ _ _ _ q0', ?_⟩
        case bytes =>
          by_cases hz : cap' = 64
          · rw [if_pos hz, List.drop_eq_nil_of_le (by omega)]; intro j hj; cases hj
          · rw [if_neg hz]; exact hsm.drop 64
        · have h1 := unhide hS
          rw [pThrough_step _ _ hlt] at h1
          have h2 := unhide Hpb
          rw [h2] at h1
          exact hide h1
        · rw [setRow_size]; have : wr.drew.heap.size = wr.heap.size := rfl; omega
        · rw [setRow_other _ _ _ _ (by omega)]; exact q1'
      case measure => simp; omega
    · have hge : decide ((64 : Int) ≤ ((m.length : Nat) : Int)) = false := by simp; omega
      have hi : (Tryd.prog.info? 68).map (·.size) = some s.cells.size := by show _ = some 8; kernel_rfl
      have ho1 : s.cells.all (·.oneCell') = true := wc_oneCell _
      rw [pThrough_end _ _ (by omega)] at hS
      go_wp2_with (first
        | (refine wpList_load_row rfl 68 (.tmp 2) rfl w.heap.size rfl 68 _ (0, 0) _ q0 Tryd.underlying68 rfl hi ?_)
        | (refine wpList_store_row rfl 68 (.tmp 4) (.tmp 15) rfl (w.heap.size + 1) _ rfl rfl 68 _ q1 hi rfl ho1 ?_))
      exact bodyPost_ret (results_row_tmp rfl _ _ (w.heap.size + 1) _ _ _ _ rfl (setRow_heap _ _ _ _ _ _ q1) Tryd.underlying68 rfl hi) rfl ⟨off', cap', by rw [← unhide hS]; rfl, by rw [← unhide hS]; exact hmc, hcc, by rw [← unhide hS]; exact hsm.below (below_setRow hb (by simp) _) hg, below_setRow hb (by simp) _⟩
end Go.Proofs.YtaclnlmmkcjjeaaDoor
