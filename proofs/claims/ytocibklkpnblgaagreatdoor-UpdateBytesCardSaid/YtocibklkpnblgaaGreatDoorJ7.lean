/-
  slices.Clone OF A LIST OF DIGESTS, by the library's contract.
-/
/-
  A REGION THAT DRAWS ITS ORDER, STEP BY STEP: each operation that may come up is walked as a list of one. Over whatever program.
-/
/-
  A ROW STORED INTO A BLOCK THAT WAS JUST MADE: the world behind it is a letter of which all is known. Over whatever program.
-/
/-
  WHAT A SIGNER's Sign RETURNS with one of its keys, where there is no log.
-/
/-
  WHAT A SIGNER's Sign RETURNS with one of its keys, where there is no log.
-/
/-
  WHAT keys' Climb RETURNS, where there is no log.
-/
/-
  == OF A DIGEST WITH ITSELF.
-/
/-
  WHAT keys' Verify RETURNS of a signer's own signature, and of an empty one, where there is no log.
-/
/-
  AN UPDATE AS A ROW; WHAT update's Right RETURNS, where there is no log.
-/
import Derived.Shelf.SlicesE.Clone
import Derived.Test.YtocibklkpnblgaaGreatDoorJ6
import Derived.OrdersHeld
import Derived.WalkKit
import Derived.Laws.Rows
import Derived.Deep.MidRow
import Derived.Laws.Tables
import Derived.Test.YtocibklkpnblgaaGreatDoorJ0
import Derived.Deep.DeepCutAuto
import Derived.Test.YtocibklkpnblgaaGreatDoorJ3
import Derived.Test.YtocibklkpnblgaaGreatDoorJ1
import Derived.Test.YtocibklkpnblgaaGreatDoorJ5
namespace Go.Proofs
open Go.Shelf
def Tryz.slClone_ren : Go.Shelf.Ren := ⟨fun | 41 => 57 | n => n, fun | 4 => 4 | 22 => 25 | 23 => 24 | n => n, fun n => n⟩
theorem Tryz.slClone : Go.Proofs.SlLaysE0.n41 Tryz.prog Tryz.slClone_ren := {
  mixed := by kernel_rfl
  f41 := ⟨ "slices.Clone[[]pontoon/api.Digest,pontoon/api.Digest]", by decide, Tryz.func57.trans (congrArg some (by kernel_rfl))⟩
  t4 := Tryz.underlying4
  a4 := Tryz.isAgg4
  z4 := Tryz.sizeOf4
  v4 := Tryz.zeroValue4
  t22 := Tryz.underlying25
  a22 := Tryz.isAgg25
  z22 := Tryz.sizeOf25
  v22 := Tryz.zeroValue25 }
namespace YtocibklkpnblgaaGreatDoor
open Go Go.RowKit
set_option linter.unusedSimpArgs false
set_option linter.unusedVariables false

theorem flat_get : ∀ (ds : List (List UInt8)), (∀ d ∈ ds, d.length = 32) → ∀ i r, i < ds.length → r < 32 → ds.flatten[i * 32 + r]? = (ds.getD i [])[r]?
  | [], _, i, r, hi, _ => by simp at hi
  | d :: ds, h, 0, r, _, hr => by
    have hd := h d (by simp)
    rw [List.flatten_cons, List.getElem?_append_left (by omega)]
    simp
  | d :: ds, h, i + 1, r, hi, hr => by
    have hd := h d (by simp)
    rw [List.flatten_cons, List.getElem?_append_right (by omega), hd, show (i + 1) * 32 + r - 32 = i * 32 + r by omega]
    rw [flat_get ds (fun x hx => h x (by simp [hx])) i r (by simpa using hi) hr]
    simp
theorem flat_len : ∀ (ds : List (List UInt8)), (∀ d ∈ ds, d.length = 32) → ds.flatten.length = 32 * ds.length
  | [], _ => rfl
  | d :: ds, h => by
    rw [List.flatten_cons, List.length_append, h d (by simp), flat_len ds (fun x hx => h x (by simp [hx])), List.length_cons]; omega
theorem byteCells_get (l : List UInt8) (k : Nat) : (Lib.byteCells l)[k]? = l[k]?.map fun b => Value.int .u8 (b.toNat : Int) := by simp [Lib.byteCells]
theorem DL.cells {w : World} {b off : Nat} {ds : List (List UInt8)} (h : DL w (some ⟨b, off, none⟩) ds) (j : Nat) (u : Value) (hu : (Lib.byteCells ds.flatten)[j]? = some u) : w.cell? ⟨b, off + j, none⟩ = some u := by
  have hj : j < 32 * ds.length := by
    have := (List.getElem?_eq_some_iff.1 hu).1
    rwa [Lib.byteCells_length, flat_len ds h.1] at this
  have hi : j / 32 < ds.length := by omega
  obtain ⟨b', off', e, _, hc⟩ := h.2 (by intro h0; rw [h0] at hi; simp at hi)
  cases e
  have h1 := hc (j / 32) hi (j % 32) u (by
    rw [byteCells_get, ← flat_get ds h.1 (j / 32) (j % 32) hi (by omega), ← byteCells_get, show j / 32 * 32 + j % 32 = j by omega]; exact hu)
  rw [show off + j / 32 * 32 + j % 32 = off + j by omega] at h1
  exact h1
theorem DL_of_cells {w : World} {g : Nat} {t : TypeId} {cur : Array Value} {ds : List (List UInt8)} (hd : ∀ d ∈ ds, d.length = 32) (hg : w.heap[g]? = some (.cells cur t (0, 0))) (hc : cur.toList.take (ds.length * 32) = Lib.byteCells ds.flatten) : DL w (some ⟨g, 0, none⟩) ds := by
  refine ⟨hd, fun _ => ⟨g, 0, rfl, (Array.getElem?_eq_some_iff.1 hg).1, fun i hi r u hu => ?_⟩⟩
  have hr : r < 32 := by
    have := (List.getElem?_eq_some_iff.1 hu).1
    rwa [Lib.byteCells_length, getD_32 hd i hi] at this
  rw [Nat.zero_add, cell_of_row _ _ _ _ _ _ hg]
  have h1 : (Lib.byteCells ds.flatten)[i * 32 + r]? = some u := by rw [byteCells_get, flat_get ds hd i r hi hr, ← byteCells_get]; exact hu
  rw [← hc, List.getElem?_take] at h1
  split at h1
  · simpa using h1
  · cases h1
theorem clone_digs (ds : List (List UInt8)) (hlen : ds.length ≤ 1000000) (b off c : Nat) (w : World) (hD : DL w (some ⟨b, off, none⟩) ds) :
    Calls Tryz.prog 57 #[.slice (some ⟨b, off, none⟩) ds.length c] w fun e w' => (∃ g cap, e = .returned (.slice (some ⟨g, 0, none⟩) ds.length cap) ∧ w.heap.size ≤ g ∧ DL w' (some ⟨g, 0, none⟩) ds) ∧ Below w.heap.size w w' := by
  obtain ⟨i0, hi0⟩ : ∃ i, Tryz.prog.info? 24 = some i := by
    cases h : Tryz.prog.info? 24 with
    | none =>
      have : (Tryz.prog.info? 24).map (·.size) = some 32 := by kernel_rfl
      rw [h] at this
      cases this
    | some i => exact ⟨i, rfl⟩
  have hz : i0.zero = some (.agg (bc (List.replicate 32 0))) := by
    have : (Tryz.prog.info? 24).bind (·.zero) = some (.agg (bc (List.replicate 32 0))) := by kernel_rfl
    rw [hi0] at this; exact this
  have hs : i0.size = 32 := by
    have : (Tryz.prog.info? 24).map (·.size) = some 32 := by kernel_rfl
    rw [hi0] at this; simpa using this
  have hy : i0.bytes = 32 := by
    have : (Tryz.prog.info? 24).map (·.bytes) = some 32 := by kernel_rfl
    rw [hi0] at this; simpa using this
  refine (AnyE.slices_Clone Tryz.slClone i0 (.agg (bc (List.replicate 32 0))) 32 32 hi0 hz hs hy (by simp [Value.cells, bc_size]) (by decide) Tryz.sizeOf24 b off ds.length c (Lib.byteCells ds.flatten) w
    (by rw [Lib.byteCells_length, flat_len ds hD.1]; omega) (by unfold maxLen; omega) (by omega) hD.cells (fun u hu => by obtain ⟨x, _, rfl⟩ := List.mem_map.1 hu; rfl)).mono ?_
  rintro e w' ⟨v, rfl, hO, hne, hb⟩
  refine ⟨?_, hb⟩
  rcases hO.2 with ⟨rfl, _⟩ | ⟨g, cap, cur, rfl, hg, hh, _, _, _, hc⟩
  · exact absurd rfl hne
  · exact ⟨g, cap, rfl, hg, DL_of_cells hD.1 hh hc⟩
end YtocibklkpnblgaaGreatDoor
end Go.Proofs

namespace Go.Proofs.YtocibklkpnblgaaGreatDoor
open Go Go.RowKit

theorem wpOp_list {P : Program} {ops : Array Oper} {Q : Exit → Act → World → Prop} {i : Nat} {o : Oper} {K : Act → World → Prop} {a : Act} {w : World} (hi : ops[i]? = some o) (h : wpList P ops (Exit.then K Q) [o] a w) : wpOp P ops Q i K a w := by
  unfold wpOp
  simp only [hi]
  exact h
/-- Whichever of those that may come up comes up, walked as a list of one. -/
theorem wpAnyH_one {P : Program} {md : Region.Mode} {ops : Array Oper} {Q : Exit → Act → World → Prop} {S : World → Prop} {fuel : Nat} {listed : Array Bool} {a : Act} {w : World} (i : Nat) (o : Oper) (hr : Region.ready md ops listed = [i]) (hi : ops[i]? = some o)
    (h : wpList P ops (Exit.then (fun a' w' => S w' ∧ wpAnyH P md ops Q S fuel (listed.setIfInBounds i true) a' w') Q) [o] a w) : wpAnyH P md ops Q S (fuel + 1) listed a w :=
  wpAnyH_all hr (by simp) fun j hj => by
    obtain rfl : j = i := by simpa using hj
    exact wpOp_list hi h
theorem wpAnyH_two {P : Program} {md : Region.Mode} {ops : Array Oper} {Q : Exit → Act → World → Prop} {S : World → Prop} {fuel : Nat} {listed : Array Bool} {a : Act} {w : World} (i k : Nat) (o u : Oper) (hr : Region.ready md ops listed = [i, k]) (hi : ops[i]? = some o) (hk : ops[k]? = some u)
    (h : wpList P ops (Exit.then (fun a' w' => S w' ∧ wpAnyH P md ops Q S fuel (listed.setIfInBounds i true) a' w') Q) [o] a w)
    (h' : wpList P ops (Exit.then (fun a' w' => S w' ∧ wpAnyH P md ops Q S fuel (listed.setIfInBounds k true) a' w') Q) [u] a w) : wpAnyH P md ops Q S (fuel + 1) listed a w :=
  wpAnyH_all hr (by simp) fun j hj => by
    have hj' : j = i ∨ j = k := by simpa using hj
    rcases hj' with rfl | rfl
    · exact wpOp_list hi h
    · exact wpOp_list hk h'
theorem wpAnyH_three {P : Program} {md : Region.Mode} {ops : Array Oper} {Q : Exit → Act → World → Prop} {S : World → Prop} {fuel : Nat} {listed : Array Bool} {a : Act} {w : World} (i k l : Nat) (o u v : Oper) (hr : Region.ready md ops listed = [i, k, l]) (hi : ops[i]? = some o) (hk : ops[k]? = some u) (hl : ops[l]? = some v)
    (h : wpList P ops (Exit.then (fun a' w' => S w' ∧ wpAnyH P md ops Q S fuel (listed.setIfInBounds i true) a' w') Q) [o] a w)
    (h' : wpList P ops (Exit.then (fun a' w' => S w' ∧ wpAnyH P md ops Q S fuel (listed.setIfInBounds k true) a' w') Q) [u] a w)
    (h'' : wpList P ops (Exit.then (fun a' w' => S w' ∧ wpAnyH P md ops Q S fuel (listed.setIfInBounds l true) a' w') Q) [v] a w) : wpAnyH P md ops Q S (fuel + 1) listed a w :=
  wpAnyH_all hr (by simp) fun j hj => by
    have hj' : j = i ∨ j = k ∨ j = l := by simpa using hj
    rcases hj' with rfl | rfl | rfl
    · exact wpOp_list hi h
    · exact wpOp_list hk h'
    · exact wpOp_list hl h''
/-- A load of a part of a row, of a row, of a cell yields wherever they lie. -/
theorem yields_mid {P : Program} {ops : Array Oper} {S : World → Prop} {o : Oper} {a : Act} (hw : Region.wanted o (yielded ops a.tmps) = true) (ty : TypeId) (x : Operand) (ho : o.op = .load ty x)
    (b off : Nat) (hx : a.eval x = .pointer (some ⟨b, off, none⟩)) (cs : List Value) (d : TypeDesc) (hc : ∀ w, S w → w.rangeAt b off cs)
    (hu : P.underlying ty = some d) (hd : d.isRow = true) (hi : (P.info? ty).map (·.size) = some cs.length) : YieldsIf P ops S o (.agg cs.toArray) a := by
  refine .inl ⟨hw, fun w hS => ?_⟩
  have hl := run_loadVar_mid w b off ty cs d (hc w hS) hu hd hi
  unfold execOp
  simp only [ho, hx, Instr.loadAt, Instr.sureAddr, Sem.run_bind, Sem.run_pure, Result.andThen_ok, hl]
theorem yields_row {P : Program} {ops : Array Oper} {S : World → Prop} {o : Oper} {a : Act} (hw : Region.wanted o (yielded ops a.tmps) = true) (ty : TypeId) (x : Operand) (ho : o.op = .load ty x)
    (g : Nat) (hx : a.eval x = .pointer (some ⟨g, 0, none⟩)) (t : TypeId) (cs : Array Value) (fr : Nat × Nat) (d : TypeDesc) (hg : ∀ w, S w → w.heap[g]? = some (.cells cs t fr))
    (hu : P.underlying ty = some d) (hd : (match d with | .struct _ | .array _ _ => true | _ => false) = true) (hi : (P.info? ty).map (·.size) = some cs.size) : YieldsIf P ops S o (.agg cs) a := by
  refine .inl ⟨hw, fun w hS => ?_⟩
  have hl := run_loadVar_row w g t ty cs fr d (hg w hS) hu hd hi
  unfold execOp
  simp only [ho, hx, Instr.loadAt, Instr.sureAddr, Sem.run_bind, Sem.run_pure, Result.andThen_ok, hl]
theorem yields_build {P : Program} {ops : Array Oper} {S : World → Prop} {o : Oper} {a : Act} (hw : Region.wanted o (yielded ops a.tmps) = true) (t : TypeId) (parts : Array (Nat × Operand)) (ho : o.op = .build t parts) (cells : Array Value)
    (hb : P.built t (parts.toList.map fun (i, x) => (i, a.eval x)) = some cells) : YieldsIf P ops S o (.agg cells) a := by
  rw [← Array.toList_map] at hb
  refine .inl ⟨hw, fun w hS => ?_⟩
  unfold execOp
  simp only [ho, Sem.run_bind, run_build w t _ cells hb, Result.andThen_ok]
  rfl
end Go.Proofs.YtocibklkpnblgaaGreatDoor

namespace Go.Proofs.YtocibklkpnblgaaGreatDoor
open Go.RowKit
set_option linter.unusedSimpArgs false
set_option linter.unusedVariables false

theorem wpList_store_newV {P : Program} {ops : Array Oper} {rest : List Oper} {op : Oper} {a : Act} {Q : Exit → Act → World → Prop} (hgd : op.guard = none) (ty : TypeId) (x y : Operand) (ho : op.op = .store ty x y)
    (W0 : World) (Z : Array Value) (t : TypeId) (D : Array Value) (hx : a.eval x = .pointer (some ⟨W0.heap.size, 0, none⟩)) (hy : a.eval y = .agg D)
    (hi : (P.info? ty).map (·.size) = some D.size) (hz : Z.size = D.size) (h1 : D.all (·.oneCell') = true)
    (h : ∀ w', w'.heap[W0.heap.size]? = some (.cells D t (0, 0)) → Below W0.heap.size W0 w' → w'.heap.size = W0.heap.size + 1 → wpList P ops Q rest (a.put op.dst undef) w') :
    wpList P ops Q (op :: rest) a (W0.alloc (.cells Z t)) := by
  refine wpList_store_row hgd ty x y ho W0.heap.size D hx hy t Z (al1 _ _) hi hz h1 ?_
  exact h _ (setRow_heap _ _ _ _ _ _ (al1 W0 (.cells Z t))) (below_setRow ((Below.refl _ _).alloc (Nat.le_refl _) _) (Nat.le_refl _) _) (by rw [setRow_size, World.size_alloc])
end Go.Proofs.YtocibklkpnblgaaGreatDoor

namespace Go.Proofs.YtocibklkpnblgaaGreatDoor
open Go Go.RowKit
set_option linter.unusedSimpArgs false
set_option linter.unusedVariables false

theorem results_cell_cell_tmp {fn : Func} {p q u : Tmp} {ty ty' : TypeId} (h : fn.results = #[.cell p ty, .cell q ty', .tmp u]) (tmps : Array Value) (P : Program) (w : World) :
    (results fn tmps).run P w =
      ((asAddr (tmps.getD p undef)).run P w).andThen fun a w₁ => ((loadVar ty a).run P w₁).andThen fun v w₂ => ((asAddr (tmps.getD q undef)).run P w₂).andThen fun b w₃ => ((loadVar ty' b).run P w₃).andThen fun v' w₄ => .ok (.tuple #[v, v', tmps.getD u undef]) w₄ := by
  simp only [results, h]
  simp [Sem.run_bind, Result.andThen]
/-- Two rows of memory and a slot as the three results. -/
theorem results_row_row_tmp {P : Program} {fn : Func} {p q u : Tmp} {ty ty' : TypeId} (h : fn.results = #[.cell p ty, .cell q ty', .tmp u]) (tmps : Array Value) (w : World) (g g' : Nat) (t t' : TypeId) (cs cs' : Array Value) (fr fr' : Nat × Nat) (d d' : TypeDesc)
    (hp : tmps.getD p undef = .pointer (some ⟨g, 0, none⟩)) (hq : tmps.getD q undef = .pointer (some ⟨g', 0, none⟩)) (hg : w.heap[g]? = some (.cells cs t fr)) (hg' : w.heap[g']? = some (.cells cs' t' fr'))
    (hu : P.underlying ty = some d) (hd : (match d with | .struct _ | .array _ _ => true | _ => false) = true) (hi : (P.info? ty).map (·.size) = some cs.size)
    (hu' : P.underlying ty' = some d') (hd' : (match d' with | .struct _ | .array _ _ => true | _ => false) = true) (hi' : (P.info? ty').map (·.size) = some cs'.size) :
    (results fn tmps).run P w = .ok (.tuple #[.agg cs, .agg cs', tmps.getD u undef]) w := by
  rw [results_cell_cell_tmp h, hp, hq]
  simp only [asAddr, Sem.run_pure, Result.andThen_ok, run_loadVar_row w g t ty cs fr d hg hu hd hi, run_loadVar_row w g' t' ty' cs' fr' d' hg' hu' hd' hi']
theorem built_sg3 (seed : List UInt8) (h : seed.length = 32) (n : Int) (p : Option Addr) (l c : Nat) : Tryz.prog.built 49 [(0, .agg (bc seed)), (1, .int .i64 n), (2, .slice p l c)] = some (sgc seed n (.slice p l c)) := by
  obtain ⟨a0, a1, a2, a3, a4, a5, a6, a7, a8, a9, a10, a11, a12, a13, a14, a15, a16, a17, a18, a19, a20, a21, a22, a23, a24, a25, a26, a27, a28, a29, a30, a31, rfl⟩ := list32 seed h
  kernel_rfl
end Go.Proofs.YtocibklkpnblgaaGreatDoor

namespace Go.Proofs.YtocibklkpnblgaaGreatDoor
open Go Go.RowKit
set_option linter.unusedSimpArgs false
set_option linter.unusedVariables false

theorem sgc_set (seed : List UInt8) (h : seed.length = 32) (n m : Int) (v : Value) : (sgc seed n v).setIfInBounds 32 (.int .i64 m) = sgc seed m v := by
  obtain ⟨a0, a1, a2, a3, a4, a5, a6, a7, a8, a9, a10, a11, a12, a13, a14, a15, a16, a17, a18, a19, a20, a21, a22, a23, a24, a25, a26, a27, a28, a29, a30, a31, rfl⟩ := list32 seed h
  rfl
set_option maxHeartbeats 4000000 in
set_option maxRecDepth 100000 in
theorem ksign_calls (seed : List UInt8) (h : seed.length = 32) (x : Nat) (hx : x < 16) (ds : List (List UInt8)) (hds : ds.length = 16) (b off c : Nat) (d : List UInt8) (hd : d.length = 32) (w : World) (hD : DL w (some ⟨b, off, none⟩) ds) (tabs : Tabs w) :
    Calls Tryz.prog 37 #[.agg (sgc seed (x : Int) (.slice (some ⟨b, off, none⟩) 16 c)), .pointer none, .agg (bc d)] w fun e w' => (∃ gc cap cs, e = .returned (.tuple #[.agg (sgc seed ((x : Int) + 1) (.slice (some ⟨gc, 0, none⟩) 16 cap)), .agg cs, .int .i64 0]) ∧ w.heap.size ≤ gc ∧ DL w' (some ⟨gc, 0, none⟩) ds ∧ SigAt w' w.heap.size seed d ds x cs) ∧ Below w.heap.size w w' := by
  obtain ⟨C, hC⟩ : ∃ C, sgc seed (x : Int) (.slice (some ⟨b, off, none⟩) 16 c) = C := ⟨_, rfl⟩
  have hiC := sgc_info seed h (x : Int) (.slice (some ⟨b, off, none⟩) 16 c)
  have hid := digInfo d hd
  rw [hC] at hiC
  have cn : C[32]? = some (.int .i64 (x : Int)) := by rw [← hC]; exact sgc_next seed h _ _
  have cl : C[33]? = some (.slice (some ⟨b, off, none⟩) 16 c) := by rw [← hC]; exact sgc_leaves seed h _ _
  have csd : Hid (∀ (W : World) (g : Nat) (t : TypeId), W.heap[g]? = some (.cells C t (0, 0)) → W.rangeAt g 0 (Lib.byteCells seed)) := hide (by rw [← hC]; exact fun W g t hW => sgc_seed seed h _ _ W g t hW)
  have hcl := hide fun W hW => clone_digs ds (by omega) b off c W hW
  rw [hds] at hcl
  have hbs := hide fun p l cc => built_sg3 seed h (x : Int) p l cc
  have hag := hide fun W hW t => again_calls seed h (x : Int) ds hds (some ⟨b, off, none⟩) c x hx d hd W hW t
  rw [hC] at hag
  have hk := hide fun W => isKey_calls (x : Int) W
  have hkk : (if (0 : Int) ≤ (x : Int) then decide ((x : Int) < 16) else false) = true := by rw [if_pos (by omega)]; simp; omega
  rw [hkk] at hk
  rw [hC]
  have A3 := hide (al3 w (.cells C 49) (.cells (bc d) 24) (.cells sg0 49))
  have HD := hide hD
  have HT := hide tabs
  have Hs := hide h
  have Hx := hide hx
  have Hlen := hide hds
  clear hD tabs hkk hC h hd hds
  obtain ⟨X, hX⟩ : ∃ X, (((w.alloc (.cells C 49)).alloc (.cells (bc d) 24)).alloc (.cells sg0 49)).alloc (.cells sigZ 27) = X := ⟨_, rfl⟩
  have HX := hide hX
  have x3 : Hid (X.heap[w.heap.size + 1 + 1 + 1]? = some (.cells sigZ 27 (0, 0))) := by
    have := al1 (((w.alloc (.cells C 49)).alloc (.cells (bc d) 24)).alloc (.cells sg0 49)) (.cells sigZ 27)
    rw [hX] at this
    exact hide (by simpa using this)
  have xs : X.heap.size = w.heap.size + 1 + 1 + 1 + 1 := by rw [← hX]; simp
  have x0 : X.heap[w.heap.size]? = some (.cells C 49 (0, 0)) := by rw [← hX, Below.heap_alloc _ _ _ (by simp only [World.size_alloc]; omega)]; exact (unhide A3).1
  have x1 : X.heap[w.heap.size + 1]? = some (.cells (bc d) 24 (0, 0)) := by rw [← hX, Below.heap_alloc _ _ _ (by simp only [World.size_alloc]; omega)]; exact (unhide A3).2.1
  have x2 : X.heap[w.heap.size + 1 + 1]? = some (.cells sg0 49 (0, 0)) := by rw [← hX, Below.heap_alloc _ _ _ (by simp only [World.size_alloc]; omega)]; exact (unhide A3).2.2
  have xb : Below w.heap.size w X := by rw [← hX]; exact (bel3 w _ _ _).alloc (by simp; omega) _
  have Xs := hide xs
  have X0 := hide x0
  have X1 := hide x1
  have X2 := hide x2
  have XB := hide xb
  clear xs x0 x1 x2 xb A3 hX
  go_enter Tryz.func37, Tryz.ntmps37
  go_upto_region 1 with fail
  change Code.wp _ _ _ _ ((((w.alloc (.cells C 49)).alloc (.cells (bc d) 24)).alloc (.cells sg0 49)).alloc (.cells sigZ 27))
  rw [unhide HX]
  go_cut [9] (fun p wc => ∃ g gc cap : Nat, p = .pointer (some ⟨g, 0, none⟩) ∧ wc.heap[g]? = some (.cells (sgc seed (x : Int) (.slice (some ⟨gc, 0, none⟩) 16 cap)) 49 (0, 0)) ∧ DL wc (some ⟨gc, 0, none⟩) ds ∧ Below X.heap.size X wc ∧ X.heap.size ≤ g ∧ X.heap.size ≤ gc ∧ g ≠ gc)
  case first =>
    have hS0 : Below X.heap.size X { X with drawn := X.drawn + 1 } := ⟨rfl, rfl, rfl, Nat.le_refl _, fun _ _ => rfl⟩
    have hxs := unhide Xs
    have r0 : Hid (∀ W : World, Below X.heap.size X W → W.heap[w.heap.size]? = some (.cells C 49 (0, 0))) := hide fun W hW => Below.at hW (by omega) (unhide X0)
    have r1 : Hid (∀ W : World, Below X.heap.size X W → W.rangeAt w.heap.size 0 (Lib.byteCells seed)) := hide fun W hW => unhide csd W _ _ (unhide r0 W hW)
    have r2 : Hid (∀ W : World, Below X.heap.size X W → W.cell? ⟨w.heap.size, 32, none⟩ = some (.int .i64 (x : Int))) := hide fun W hW => by rw [cell_of_row _ _ _ _ _ _ (unhide r0 W hW)]; exact cn
    have r3 : Hid (∀ W : World, Below X.heap.size X W → W.cell? ⟨w.heap.size, 33, none⟩ = some (.slice (some ⟨b, off, none⟩) 16 c)) := hide fun W hW => by rw [cell_of_row _ _ _ _ _ _ (unhide r0 W hW)]; exact cl
    clear hxs
    refine wp_region_held (S := fun W => Below X.heap.size X W) mixed ?_
    refine wpAnyH_take (i := 0) rfl (by kernel_rfl) (by kernel_rfl) (by kernel_rfl) (fun _ _ _ h => h) (.inl ⟨rfl, fun _ _ => rfl⟩) hS0 ?_
    refine wpAnyH_take (i := 1) rfl (by kernel_rfl) (by kernel_rfl) (by kernel_rfl) (fun _ _ _ h => h) (yields_mid rfl 24 (.tmp 12) rfl w.heap.size 0 rfl (Lib.byteCells seed) _ (unhide r1) Tryz.underlying24 rfl (by rw [Lib.byteCells_length, unhide Hs]; kernel_rfl)) hS0 ?_
    refine wpAnyH_take (i := 2) rfl (by kernel_rfl) (by kernel_rfl) (by kernel_rfl) (fun _ _ _ h => h) (.inl ⟨rfl, fun _ _ => rfl⟩) hS0 ?_
    refine wpAnyH_take (i := 3) (v := .int .i64 (x : Int)) rfl (by kernel_rfl) (by kernel_rfl) (by kernel_rfl) (fun _ _ _ h => h) (.inl ⟨rfl, fun W hW => by have c2 := unhide r2 W hW; go_simp⟩) hS0 ?_
    refine wpAnyH_take (i := 4) rfl (by kernel_rfl) (by kernel_rfl) (by kernel_rfl) (fun _ _ _ h => h) (.inl ⟨rfl, fun _ _ => rfl⟩) hS0 ?_
    refine wpAnyH_take (i := 5) (v := .slice (some ⟨b, off, none⟩) 16 c) rfl (by kernel_rfl) (by kernel_rfl) (by kernel_rfl) (fun _ _ _ h => h) (.inl ⟨rfl, fun W hW => by have c3 := unhide r3 W hW; go_simp⟩) hS0 ?_
    refine wpAnyH_two 6 8 _ _ (by kernel_rfl) rfl rfl ?_ ?_
    · have hDX := ((unhide HD).below (unhide XB) (Nat.le_refl _)).below hS0 (Nat.le_refl _)
      have HS0 := hide hS0
      clear hS0 r0 r1 r2 r3
      go_wp2_with fail
      refine (unhide hcl _ hDX).mono ?_
      rintro e w1 ⟨⟨gc, cap, rfl, hg, hDg⟩, b1⟩
      have hS1 : Below X.heap.size X w1 := (unhide HS0).trans (b1.mono (Nat.le_refl _))
      go_wp2
      refine ⟨hS1, ?_⟩
      have hb3 := unhide hbs (some ⟨gc, 0, none⟩) 16 cap
      refine wpAnyH_take (i := 7) rfl (by kernel_rfl) (by kernel_rfl) (by kernel_rfl) (fun _ _ _ h => h) (yields_build rfl 49 #[(0, .tmp 13), (1, .tmp 15), (2, .tmp 18)] rfl _ hb3) hS1 ?_
      refine wpAnyH_one 8 _ (by kernel_rfl) rfl ?_
      go_wp2
      refine ⟨hS1.alloc hS1.size _, ?_⟩
      refine wpAnyH_one 9 _ (by kernel_rfl) rfl ?_
      have hsi := sgc_info seed (unhide Hs) (x : Int) (.slice (some ⟨gc, 0, none⟩) 16 cap)
      have hso := sgc_one seed (x : Int) (some ⟨gc, 0, none⟩) 16 cap
      have hsz := sg0_size seed (unhide Hs) (x : Int) (.slice (some ⟨gc, 0, none⟩) 16 cap)
      have hgz : gc < w1.heap.size := by
        obtain ⟨b', off', e', h', _⟩ := hDg.2 (by intro h0; rw [h0] at hDg; have := unhide Hlen; rw [h0] at this; simp at this)
        cases e'; exact h'
      obtain ⟨CC, hCC⟩ : ∃ CC, sgc seed (x : Int) (.slice (some ⟨gc, 0, none⟩) 16 cap) = CC := ⟨_, rfl⟩
      rw [hCC] at hsi hso hsz
      rw [hCC]
      have HCC := hide hCC
      clear hCC hb3
      go_wp2_with (refine wpList_store_newV rfl 49 (.tmp 9) (.tmp 19) rfl w1 sg0 _ CC rfl rfl hsi hsz hso ?_; intro w2 q2 b2 z2)
      have hS2 := hS1.trans (b2.mono hS1.size)
      refine ⟨hS2, wpAnyH_done (by kernel_rfl) ?_ _⟩
      go_wp2
      go_meet
      case rel => exact ⟨w1.heap.size, gc, cap, rfl, by rw [unhide HCC]; exact q2, hDg.below b2 (Nat.le_refl _), hS2, hS1.size, hg, by omega⟩
    · have hDX := ((unhide HD).below (unhide XB) (Nat.le_refl _)).below hS0 (Nat.le_refl _)
      have HS0 := hide hS0
      have HDX := hide hDX
      clear hS0 hDX r0 r1 r2 r3
      go_wp2
      have hSA : Below X.heap.size X ({ X with drawn := X.drawn + 1 }.alloc (.cells sg0 49)) := (unhide HS0).alloc (Nat.le_refl _) _
      have qA := al1 { X with drawn := X.drawn + 1 } (.cells sg0 49)
      have hDA := (unhide HDX).below ((Below.refl _ { X with drawn := X.drawn + 1 }).alloc (Nat.le_refl _) (.cells sg0 49)) (Nat.le_refl _)
      refine ⟨hSA, ?_⟩
      refine wpAnyH_one 6 _ (by kernel_rfl) rfl ?_
      change wpList _ _ _ _ _ ({ X with drawn := X.drawn + 1 }.alloc (.cells sg0 49))
      obtain ⟨Y, hY⟩ : ∃ Y, { X with drawn := X.drawn + 1 }.alloc (.cells sg0 49) = Y := ⟨_, rfl⟩
      rw [hY] at hSA qA hDA
      rw [hY]
      have zA : X.heap.size < Y.heap.size := (Array.getElem?_eq_some_iff.1 qA).1
      clear hY
      go_wp2_with fail
      refine (unhide hcl _ hDA).mono ?_
      rintro e w1 ⟨⟨gc, cap, rfl, hg, hDg⟩, b1⟩
      have hS1 : Below X.heap.size X w1 := hSA.trans (b1.mono hSA.size)
      have q1 : w1.heap[X.heap.size]? = some (.cells sg0 49 (0, 0)) := Below.at b1 zA qA
      have hb3 := unhide hbs (some ⟨gc, 0, none⟩) 16 cap
      go_wp2
      refine ⟨hS1, ?_⟩
      refine wpAnyH_take (i := 7) rfl (by kernel_rfl) (by kernel_rfl) (by kernel_rfl) (fun _ _ _ h => h) (yields_build rfl 49 #[(0, .tmp 13), (1, .tmp 15), (2, .tmp 18)] rfl _ hb3) hS1 ?_
      refine wpAnyH_one 9 _ (by kernel_rfl) rfl ?_
      have hsi := sgc_info seed (unhide Hs) (x : Int) (.slice (some ⟨gc, 0, none⟩) 16 cap)
      have hso := sgc_one seed (x : Int) (some ⟨gc, 0, none⟩) 16 cap
      have hsz := sg0_size seed (unhide Hs) (x : Int) (.slice (some ⟨gc, 0, none⟩) 16 cap)
      obtain ⟨CC, hCC⟩ : ∃ CC, sgc seed (x : Int) (.slice (some ⟨gc, 0, none⟩) 16 cap) = CC := ⟨_, rfl⟩
      rw [hCC] at hsi hso hsz
      rw [hCC]
      have HCC := hide hCC
      clear hCC hb3
      go_wp2_with (refine wpList_store_row rfl 49 (.tmp 9) (.tmp 19) rfl X.heap.size CC rfl rfl 49 _ q1 hsi hsz hso ?_)
      have hS2 : Below X.heap.size X (w1.setRow X.heap.size CC) := below_setRow hS1 (Nat.le_refl _) _
      refine ⟨hS2, wpAnyH_done (by kernel_rfl) ?_ _⟩
      go_wp2
      go_meet
      case rel => exact ⟨X.heap.size, gc, cap, rfl, by rw [unhide HCC]; exact setRow_heap _ _ _ _ _ _ q1, hDg.other (setRow_size _ _ _) (fun _ b' off' e' => by cases e'; exact setRow_other _ _ _ _ (by omega)), hS2, Nat.le_refl _, by omega, by omega⟩
  case rest =>
    obtain ⟨G, gc, cap, rfl, qG, hDg, hbX, zG, zgc, hne⟩ := hcut
    have hxs := unhide Xs
    have c0 := Below.at hbX (by omega) (unhide X0)
    have c1 := Below.at hbX (by omega) (unhide X1)
    have c2 := Below.at hbX (by omega) (unhide X2)
    have c3 := Below.at hbX (by omega) (unhide x3)
    have bW : Below w.heap.size w wc := (unhide XB).trans (hbX.mono (unhide XB).size)
    have hGn : w.heap.size + 1 + 1 + 1 < G := by omega
    have n0 : wc.cell? ⟨w.heap.size, 32, none⟩ = some (.int .i64 (x : Int)) := by rw [cell_of_row _ _ _ _ _ _ c0]; exact cn
    have HG := hide hGn
    have Hgne := hide hne
    have HgcX : Hid (w.heap.size + 1 + 1 + 1 < gc) := hide (by omega)
    clear hxs hbX zG zgc hne hGn hcl hbs
    go_wp2_with fail
    refine (unhide hk _).mono ?_
    rintro e w4 ⟨rfl, rfl⟩
    go_wp2_with (first
      | (refine wpList_load_row rfl 49 (.tmp 3) rfl w.heap.size rfl 49 C (0, 0) _ c0 Tryz.underlying49 rfl hiC ?_)
      | (refine wpList_load_row rfl 24 (.tmp 5) rfl (w.heap.size + 1) rfl 24 _ (0, 0) _ c1 Tryz.underlying24 rfl hid ?_))
    refine (unhide hag _ ((unhide HD).below bW (Nat.le_refl _)) ((unhide HT).below bW (Nat.le_refl _))).mono ?_
    rintro e w5 ⟨⟨cs, rfl, hSig⟩, b5⟩
    have d2 := Below.at b5 (Array.getElem?_eq_some_iff.1 c2).1 c2
    have d3 := Below.at b5 (Array.getElem?_eq_some_iff.1 c3).1 c3
    have dG := Below.at b5 (Array.getElem?_eq_some_iff.1 qG).1 qG
    have hDg5 := hDg.below b5 (Nat.le_refl _)
    have bW5 : Below w.heap.size w w5 := bW.trans (b5.mono bW.size)
    have hsz := hSig.size
    have hsi := sig_info cs hsz.1
    have hso := hsz.2
    have hsq : sigZ.size = cs.size := by rw [hsz.1]; rfl
    have zG5 : G < w4.heap.size := (Array.getElem?_eq_some_iff.1 qG).1
    have zc : w4.heap.size ≤ w5.heap.size := b5.size
    have HSig := hide hSig
    have HS := Hs
    have ZG5 := hide zG5
    have Zc := hide zc
    have hset : Hid ((sgc seed (x : Int) (.slice (some ⟨gc, 0, none⟩) 16 cap)).setIfInBounds 32 (.int .i64 ((x : Int) + 1)) = sgc seed ((x : Int) + 1) (.slice (some ⟨gc, 0, none⟩) 16 cap)) := hide (sgc_set seed (unhide Hs) _ _ _)
    have hwx : IntKind.i64.wrap ((x : Int) + 1) = (x : Int) + 1 := wi64 _ (by omega) (by have := unhide Hx; omega)
    clear hsz hSig c0 c1 c2 c3 n0 qG hDg b5 bW zG5 zc
    go_upto_region 8 with (refine wpList_store_newV rfl 27 (.tmp 10) (.tmp 33) rfl w5 sigZ _ cs rfl rfl hsi hsq hso ?_; intro w6 q6 b6 z6; have eG := Below.at b6 (Array.getElem?_eq_some_iff.1 dG).1 dG; have nG : w6.cell? ⟨G, 32, none⟩ = some (.int .i64 (x : Int)) := (cell_of_row _ _ _ _ _ _ eG).trans (sgc_next seed (unhide Hs) _ _); have fG : w6.frozen? ⟨G, 32, none⟩ = false := frozen_of_row _ _ _ _ _ eG)
    have e2 := Below.at b6 (Array.getElem?_eq_some_iff.1 d2).1 d2
    have e3 := Below.at b6 (Array.getElem?_eq_some_iff.1 d3).1 d3
    have hDg6 := hDg5.below b6 (Nat.le_refl _)
    have bW6 : Below w.heap.size w w6 := bW5.trans (b6.mono bW5.size)
    have HSig6 := hide ((unhide HSig).below b6)
    have eS := heap_setCell_same _ _ 32 _ _ (.int .i64 ((x : Int) + 1)) eG
    rw [unhide hset] at eS
    have hGn := unhide HG
    have hG5 := unhide ZG5
    have hc5 := unhide Zc
    have hoth : ∀ k, k ≠ G → (w6.setCell ⟨G, 32, none⟩ (.int .i64 ((x : Int) + 1))).heap[k]? = w6.heap[k]? := fun k hk => heap_setCell_other _ _ _ _ (by show k ≠ G; exact hk)
    have f2 := (hoth (w.heap.size + 1 + 1) (by omega)).trans e2
    have f3 := (hoth (w.heap.size + 1 + 1 + 1) (by omega)).trans e3
    have f6 := (hoth w5.heap.size (by omega)).trans q6
    have bW7 : Below w.heap.size w (w6.setCell ⟨G, 32, none⟩ (.int .i64 ((x : Int) + 1))) := bW6.setCell (p := ⟨G, 32, none⟩) (by show w.heap.size ≤ G; omega) _
    have hD7 : DL (w6.setCell ⟨G, 32, none⟩ (.int .i64 ((x : Int) + 1))) (some ⟨gc, 0, none⟩) ds := hDg6.other (by simp) (fun _ b' off' e' => by cases e'; exact hoth gc (by have := unhide Hgne; omega))
    have HS7 : Hid (SigAt (w6.setCell ⟨G, 32, none⟩ (.int .i64 ((x : Int) + 1))) w4.heap.size seed d ds x cs) := hide (by
      obtain ⟨g, gp, h1, h2, h3, h4, h5, h6⟩ := (unhide HSig6).ex
      exact ⟨g, gp, h1, h2, h3, (hoth g (by omega)).trans h4, (hoth (g + 1) (by omega)).trans h5, (hoth gp (by omega)).trans h6⟩)
    obtain ⟨V, hV⟩ : ∃ V, w6.setCell ⟨G, 32, none⟩ (.int .i64 ((x : Int) + 1)) = V := ⟨_, rfl⟩
    rw [hV] at eS f2 f3 f6 bW7 hD7 HS7
    rw [hV]
    have hz2 := sg0_size seed (unhide Hs) ((x : Int) + 1) (.slice (some ⟨gc, 0, none⟩) 16 cap)
    have hi2 := sgc_info seed (unhide Hs) ((x : Int) + 1) (.slice (some ⟨gc, 0, none⟩) 16 cap)
    have ho2 := sgc_one seed ((x : Int) + 1) (some ⟨gc, 0, none⟩) 16 cap
    obtain ⟨SG, hSG⟩ : ∃ SG, sgc seed ((x : Int) + 1) (.slice (some ⟨gc, 0, none⟩) 16 cap) = SG := ⟨_, rfl⟩
    rw [hSG] at hz2 hi2 ho2 eS
    have HSG := hide hSG
    obtain ⟨J, hJ⟩ : ∃ J, w5.heap.size = J := ⟨_, rfl⟩
    have hJ4 : w4.heap.size ≤ J := by rw [← hJ]; exact hc5
    rw [hJ] at f6
    rw [hJ]
    have hgcz : gc < V.heap.size := by
      obtain ⟨b', off', e', h', _⟩ := hD7.2 (by intro h0; have := unhide Hlen; rw [h0] at this; simp at this)
      cases e'; exact h'
    have HgcN := unhide HgcX
    have L1 := hide hGn
    have L2 := hide hG5
    have L3 := hide hJ4
    have L4 := hide HgcN
    clear hSG hV hoth e2 e3 eG nG fG hDg6 bW6 HSig6 hset b6 z6 q6 d2 d3 dG hDg5 bW5 hGn hG5 hc5 hJ hJ4 HgcN hgcz
    have Z0 : { V with drawn := V.drawn + 1 }.heap = V.heap := rfl
    refine wp_region_held (S := fun W => W.heap[G]? = some (.cells SG 49 (0, 0)) ∧ W.heap[J]? = some (.cells cs 27 (0, 0))) mixed ?_
    have hS0 : { V with drawn := V.drawn + 1 }.heap[G]? = some (.cells SG 49 (0, 0)) ∧ { V with drawn := V.drawn + 1 }.heap[J]? = some (.cells cs 27 (0, 0)) := ⟨eS, f6⟩
    have bW8 : Below w.heap.size w { V with drawn := V.drawn + 1 } := bW7.trans ⟨rfl, rfl, rfl, Nat.le_refl _, fun _ _ => rfl⟩
    have g2 : { V with drawn := V.drawn + 1 }.heap[w.heap.size + 1 + 1]? = some (.cells sg0 49 (0, 0)) := f2
    have g3 : { V with drawn := V.drawn + 1 }.heap[w.heap.size + 1 + 1 + 1]? = some (.cells sigZ 27 (0, 0)) := f3
    have hD8 : DL { V with drawn := V.drawn + 1 } (some ⟨gc, 0, none⟩) ds := hD7.below (B := V.heap.size) ⟨rfl, rfl, rfl, Nat.le_refl _, fun _ _ => rfl⟩ (Nat.le_refl _)
    have HS8 : Hid (SigAt { V with drawn := V.drawn + 1 } w4.heap.size seed d ds x cs) := hide ((unhide HS7).below ⟨rfl, rfl, rfl, Nat.le_refl _, fun _ _ => rfl⟩)
    obtain ⟨Y, hY⟩ : ∃ Y, { V with drawn := V.drawn + 1 } = Y := ⟨_, rfl⟩
    rw [hY] at hS0 bW8 g2 g3 hD8 HS8
    rw [hY]
    clear hY Z0 f2 f3 f6 eS bW7 hD7 HS7
    refine wpAnyH_take (i := 0) rfl (by kernel_rfl) (by kernel_rfl) (by kernel_rfl) (fun _ _ _ h => h) (yields_row rfl 49 (.tmp 9) rfl G rfl 49 SG (0, 0) _ (fun W hW => hW.1) Tryz.underlying49 rfl hi2) hS0 ?_
    refine wpAnyH_take (i := 1) rfl (by kernel_rfl) (by kernel_rfl) (by kernel_rfl) (fun _ _ _ h => h) (yields_row rfl 27 (.tmp 10) rfl J rfl 27 cs (0, 0) _ (fun W hW => hW.2) Tryz.underlying27 rfl hsi) hS0 ?_
    refine wpAnyH_one 2 _ (by kernel_rfl) rfl ?_
    go_wp2_with (refine wpList_store_row rfl 49 (.tmp 6) (.tmp 44) rfl (w.heap.size + 1 + 1) SG rfl rfl 49 _ g2 hi2 hz2 ho2 ?_)
    have l1 := unhide L1
    have l2 := unhide L2
    have l3 := unhide L3
    have l4 := unhide L4
    refine ⟨⟨(setRow_other _ _ _ _ (by omega)).trans hS0.1, (setRow_other _ _ _ _ (by omega)).trans hS0.2⟩, ?_⟩
    refine wpAnyH_one 3 _ (by kernel_rfl) rfl ?_
    have k3 := (setRow_other Y (w.heap.size + 1 + 1) (w.heap.size + 1 + 1 + 1) SG (by omega)).trans g3
    go_wp2_with (refine wpList_store_row rfl 27 (.tmp 7) (.tmp 45) rfl (w.heap.size + 1 + 1 + 1) cs rfl rfl 27 _ k3 hsi hsq hso ?_)
    have oth : ∀ k, k ≠ w.heap.size + 1 + 1 → k ≠ w.heap.size + 1 + 1 + 1 → ((Y.setRow (w.heap.size + 1 + 1) SG).setRow (w.heap.size + 1 + 1 + 1) cs).heap[k]? = Y.heap[k]? := fun k h1 h2 => (setRow_other _ _ _ _ h2).trans (setRow_other _ _ _ _ h1)
    refine ⟨⟨(oth G (by omega) (by omega)).trans hS0.1, (oth J (by omega) (by omega)).trans hS0.2⟩, ?_⟩
    refine wpAnyH_one 4 _ (by kernel_rfl) rfl ?_
    go_wp2
    refine ⟨⟨(oth G (by omega) (by omega)).trans hS0.1, (oth J (by omega) (by omega)).trans hS0.2⟩, wpAnyH_done (by kernel_rfl) ?_ _⟩
    go_wp2
    refine bodyPost_ret (results_row_row_tmp rfl _ _ (w.heap.size + 1 + 1) (w.heap.size + 1 + 1 + 1) _ _ SG cs _ _ _ _ rfl rfl ((setRow_other _ _ _ _ (by omega)).trans (setRow_heap _ _ _ _ _ _ g2)) (setRow_heap _ _ _ _ _ _ k3) Tryz.underlying49 rfl hi2 Tryz.underlying27 rfl hsi) rfl ⟨⟨gc, cap, cs, by rw [unhide HSG]; rfl, by omega, ?_, ?_⟩, below_setRow (below_setRow bW8 (by omega) _) (by omega) _⟩
    · exact hD8.other (by rw [setRow_size, setRow_size]) (fun _ b' off' e' => by cases e'; exact oth gc (by omega) (by omega))
    · obtain ⟨g, gp, h1, h2, h3, h4, h5, h6⟩ := (unhide HS8).ex
      exact ⟨g, gp, by omega, by omega, h3, (oth g (by omega) (by omega)).trans h4, (oth (g + 1) (by omega) (by omega)).trans h5, (oth gp (by omega) (by omega)).trans h6⟩
end Go.Proofs.YtocibklkpnblgaaGreatDoor

namespace Go.Proofs.YtocibklkpnblgaaGreatDoor
open Go Go.RowKit
set_option linter.unusedSimpArgs false
set_option linter.unusedVariables false

theorem kand_one (M : Nat) (h : M < 9223372036854775808) : bits .and .i64 (M : Int) 1 = ((M % 2 : Nat) : Int) := by
  have h1 : (BitVec.ofInt 64 (M : Int)).toNat = M := by
    rw [BitVec.ofInt_natCast, BitVec.toNat_ofNat]; exact Nat.mod_eq_of_lt (by omega)
  have h2 : (BitVec.ofInt 64 (1 : Int)).toNat = 1 := by decide
  show IntKind.i64.wrap ((BitVec.ofInt 64 (M : Int) &&& BitVec.ofInt 64 (1 : Int)).toNat : Int) = _
  rw [BitVec.toNat_and, h1, h2, Nat.and_one_is_mod, IntKind.wrap_i64]
  omega
set_option maxHeartbeats 4000000 in
set_option maxRecDepth 100000 in
theorem kclimb_calls (leaf : List UInt8) (hl : leaf.length = 32) (x : Nat) (hx : x < 4294967296) (ds : List (List UInt8)) (p : Option Addr) (cap : Nat) (hlen : ds.length ≤ 60) (w : World) (hD : DL w p ds) (tabs : Tabs w) :
    Calls Tryz.prog 62 #[.pointer none, .agg (bc leaf), .int .i64 (x : Int), .slice p ds.length cap] w fun e w' => e = .returned (.agg (bc (kClimb leaf x ds ds.length))) ∧ Below w.heap.size w w' := by
  have A3 := hide (al3 w (.cells (bc leaf) 24) (.cells (bc (List.replicate 32 0)) 24) (.cells (bc (List.replicate 32 0)) 24))
  have B3 := hide (bel3 w (.cells (bc leaf) 24) (.cells (bc (List.replicate 32 0)) 24) (.cells (bc (List.replicate 32 0)) 24))
  have hil := digInfo leaf hl
  have hzl := zeroSize leaf hl
  have hol := bc_oneCell leaf
  have HD := hide hD
  have HT := hide tabs
  have HL := hide (kClimb_length leaf x ds hl)
  have Hx := hide hx
  have Hlen := hide hlen
  clear tabs hD hx hlen
  go_enter Tryz.func62, Tryz.ntmps62
  go_wp2_with (first
    | refine wpList_load_row rfl 24 (.tmp 5) rfl w.heap.size rfl 24 _ (0, 0) _ (al2 w (.cells (bc leaf) 24) (.cells (bc (List.replicate 32 0)) 24)).1 Tryz.underlying24 rfl hil ?_
    | refine wpList_store_row rfl 24 (.tmp 9) (.tmp 12) rfl (w.heap.size + 1 + 1) _ rfl rfl 24 _ (unhide A3).2.2 hil hzl hol ?_)
  obtain ⟨N, hN⟩ : ∃ N, w.heap.size = N := ⟨_, rfl⟩
  have HN := hide hN
  go_loopw [15] (fun i wr => ∃ k : Nat, k ≤ ds.length ∧ i = .int .i64 (k : Int) ∧ Below N w wr ∧ wr.heap[N + 1]? = some (.cells (bc (List.replicate 32 0)) 24 (0, 0)) ∧ wr.heap[N + 1 + 1]? = some (.cells (bc (kClimb leaf x ds k)) 24 (0, 0))) (fun i _ => ds.length - (intOf i).toNat)
  case atStart =>
    subst hN
    refine ⟨0, by omega, rfl, below_setRow (unhide B3) (by omega) _, ?_, ?_⟩
    · exact (setRow_other _ _ _ _ (by omega)).trans (unhide A3).2.1
    · exact setRow_heap _ _ _ _ _ _ (unhide A3).2.2
  case round =>
    obtain ⟨k, hk, rfl, hb, q1, q2⟩ := hrel
    rw [hN]
    clear A3 B3
    by_cases hlt : k < ds.length
    · have hd : decide (k < ds.length) = true := by simpa using hlt
      have hDk := unhide HD
      obtain ⟨b, off, rfl, hlt2, hc⟩ := hDk.2 (by intro h; rw [h] at hlt; simp at hlt)
      have hEl := hDk.len k hlt
      have hr := rangeAt_below (hc k hlt) hb (by rw [← hN]; exact hlt2)
      have hTl := unhide HL k
      have hT2l := unhide HL (k + 1)
      have hT2e : kClimb leaf x ds (k + 1) = if x / 2 ^ k % 2 = 1 then pOf 4 [ds.getD k [], kClimb leaf x ds k] else pOf 4 [kClimb leaf x ds k, ds.getD k []] := rfl
      obtain ⟨E, hE⟩ : ∃ E, ds.getD k [] = E := ⟨_, rfl⟩
      rw [hE] at hEl hr hT2e
      obtain ⟨T1, hT1⟩ : ∃ T, kClimb leaf x ds k = T := ⟨_, rfl⟩
      rw [hT1] at hTl q2 hT2e
      obtain ⟨T2, hT2⟩ : ∃ T, kClimb leaf x ds (k + 1) = T := ⟨_, rfl⟩
      rw [hT2] at hT2e hT2l
      obtain ⟨B, hB⟩ : ∃ B, x / 2 ^ k = B := ⟨_, rfl⟩
      have hBl : B < 9223372036854775808 := by rw [← hB]; exact Nat.lt_of_le_of_lt (Nat.div_le_self _ _) (by have := unhide Hx; omega)
      have fB : (x : Int) / 2 ^ k = (B : Int) := by rw [← hB]; push_cast; rfl
      have fA := kand_one B hBl
      rw [hB] at hT2e
      have hk60 : k ≤ 60 := by have := unhide Hlen; omega
      have hiT := digInfo _ hTl
      have hiE := digInfo _ hEl
      have hi2 := digInfo _ hT2l
      have ho2 := bc_oneCell T2
      have hz2 : (bc T1).size = (bc T2).size := by rw [bc_size, bc_size, hTl, hT2l]
      have hzE := zeroSize E hEl
      have b1 : (0 : Int) ≤ k ∧ (k : Int) < ds.length := by omega
      have HR := hide hr
      have HEl := hide hEl
      have HTl := hide hTl
      have HT2 := hide hT2
      have HT2e := hide hT2e
      have Q1 := hide q1
      have Q2 := hide q2
      have HB := hide hb
      have Hk := hide hlt
      clear q1 q2 hb hlt hT2 hT2e hE hT1 hr hc hlt2 hB hEl hTl hT2l hDk hBl
      by_cases hbit : B % 2 = 1
      · have e1 := unhide HT2e
        rw [if_pos hbit] at e1
        have kN : Hid (∀ W, Tabs W → Calls Tryz.prog 63 #[.pointer none, .int .u8 4, .agg (bc E), .agg (bc T1)] W fun e w'' => e = .returned (.agg (bc T2)) ∧ Below W.heap.size W w'') := hide fun W tW => by
          rw [e1]; exact twoD_calls 4 (by decide) E T1 (unhide HEl) (unhide HTl) W tW
        rw [hbit] at fA
        clear e1 HT2e hbit
        go_wp2_with (first
          | (refine wpList_load_mid rfl 24 (.tmp 18) rfl b (off + k * 32) rfl (Lib.byteCells E) _ (unhide HR) Tryz.underlying24 rfl (by rw [Lib.byteCells_length, unhide HEl]; kernel_rfl) ?_)
          | (refine wpList_store_new rfl 24 (.tmp 11) (.tmp 19) rfl wr _ _ E rfl rfl hiE hzE ?_; intro w2 q3 b2 z2; have r2 := Below.at b2 (Array.getElem?_eq_some_iff.1 (unhide Q2)).1 (unhide Q2))
          | (refine wpList_load_row rfl 24 (.tmp 11) rfl wr.heap.size rfl 24 _ (0, 0) _ q3 Tryz.underlying24 rfl hiE ?_)
          | (refine wpList_load_row rfl 24 (.tmp 9) rfl (N + 1 + 1) rfl 24 _ (0, 0) _ r2 Tryz.underlying24 rfl hiT ?_))
        have bb2 : Below N w w2 := (unhide HB).trans (b2.mono (by have := (unhide HB).size; rw [← hN]; exact this))
        refine (unhide kN _ ((unhide HT).below bb2 (by rw [← hN]; exact Nat.le_refl _))).mono ?_
        rintro e w3 ⟨rfl, b3⟩
        have r1 := Below.at b2 (Array.getElem?_eq_some_iff.1 (unhide Q1)).1 (unhide Q1)
        have s1 := Below.at b3 (Array.getElem?_eq_some_iff.1 r1).1 r1
        have s2 := Below.at b3 (Array.getElem?_eq_some_iff.1 r2).1 r2
        have bb3 : Below N w w3 := bb2.trans (b3.mono (by have := bb2.size; rw [← hN]; exact this))
        clear b2 b3 r1 r2 z2 q3
        go_wp2_with (refine wpList_store_row rfl 24 (.tmp 9) (.tmp 28) rfl (N + 1 + 1) _ rfl rfl 24 _ s2 hi2 hz2 ho2 ?_)
        refine ⟨⟨k + 1, by have := unhide Hk; omega, by go_num, below_setRow bb3 (by omega) _, ?_, ?_⟩, by have := unhide Hk; simp [intOf]; omega⟩
        · rw [setRow_other _ _ _ _ (by omega)]; exact s1
        · rw [unhide HT2]; exact setRow_heap _ _ _ _ _ _ s2
      · have e1 := unhide HT2e
        rw [if_neg hbit] at e1
        have kN : Hid (∀ W, Tabs W → Calls Tryz.prog 63 #[.pointer none, .int .u8 4, .agg (bc T1), .agg (bc E)] W fun e w'' => e = .returned (.agg (bc T2)) ∧ Below W.heap.size W w'') := hide fun W tW => by
          rw [e1]; exact twoD_calls 4 (by decide) T1 E (unhide HTl) (unhide HEl) W tW
        rw [show B % 2 = 0 by omega] at fA
        clear e1 HT2e hbit
        go_wp2_with (first
          | (refine wpList_load_mid rfl 24 (.tmp 18) rfl b (off + k * 32) rfl (Lib.byteCells E) _ (unhide HR) Tryz.underlying24 rfl (by rw [Lib.byteCells_length, unhide HEl]; kernel_rfl) ?_)
          | (refine wpList_store_new rfl 24 (.tmp 11) (.tmp 19) rfl wr _ _ E rfl rfl hiE hzE ?_; intro w2 q3 b2 z2; have r2 := Below.at b2 (Array.getElem?_eq_some_iff.1 (unhide Q2)).1 (unhide Q2))
          | (refine wpList_load_row rfl 24 (.tmp 11) rfl wr.heap.size rfl 24 _ (0, 0) _ q3 Tryz.underlying24 rfl hiE ?_)
          | (refine wpList_load_row rfl 24 (.tmp 9) rfl (N + 1 + 1) rfl 24 _ (0, 0) _ r2 Tryz.underlying24 rfl hiT ?_))
        have bb2 : Below N w w2 := (unhide HB).trans (b2.mono (by have := (unhide HB).size; rw [← hN]; exact this))
        refine (unhide kN _ ((unhide HT).below bb2 (by rw [← hN]; exact Nat.le_refl _))).mono ?_
        rintro e w3 ⟨rfl, b3⟩
        have r1 := Below.at b2 (Array.getElem?_eq_some_iff.1 (unhide Q1)).1 (unhide Q1)
        have s1 := Below.at b3 (Array.getElem?_eq_some_iff.1 r1).1 r1
        have s2 := Below.at b3 (Array.getElem?_eq_some_iff.1 r2).1 r2
        have bb3 : Below N w w3 := bb2.trans (b3.mono (by have := bb2.size; rw [← hN]; exact this))
        clear b2 b3 r1 r2 z2 q3
        go_wp2_with (refine wpList_store_row rfl 24 (.tmp 9) (.tmp 32) rfl (N + 1 + 1) _ rfl rfl 24 _ s2 hi2 hz2 ho2 ?_)
        refine ⟨⟨k + 1, by have := unhide Hk; omega, by go_num, below_setRow bb3 (by omega) _, ?_, ?_⟩, by have := unhide Hk; simp [intOf]; omega⟩
        · rw [setRow_other _ _ _ _ (by omega)]; exact s1
        · rw [unhide HT2]; exact setRow_heap _ _ _ _ _ _ s2
    · have hd : decide (k < ds.length) = false := by simpa using hlt
      have hkl : k = ds.length := by omega
      have hM1 := unhide HL ds.length
      have hi := digInfo _ hM1
      have hz := zeroSize _ hM1
      have ho := bc_oneCell (kClimb leaf x ds ds.length)
      rw [hkl] at q2
      have Q1 := hide q1
      have Q2 := hide q2
      have HB := hide hb
      clear q1 q2 hb hkl hlt hM1
      go_wp2_with (first
        | refine wpList_load_row rfl 24 (.tmp 9) rfl (N + 1 + 1) rfl 24 _ (0, 0) _ (unhide Q2) Tryz.underlying24 rfl hi ?_
        | refine wpList_store_row rfl 24 (.tmp 8) (.tmp 34) rfl (N + 1) _ rfl rfl 24 _ (unhide Q1) hi hz ho ?_)
      exact bodyPost_ret (results_cell_row rfl _ _ (N + 1) _ _ _ _ rfl (setRow_heap _ _ _ _ _ _ (unhide Q1)) Tryz.underlying24 rfl hi) rfl ⟨rfl, by rw [unhide HN]; exact below_setRow (unhide HB) (by omega) _⟩
end Go.Proofs.YtocibklkpnblgaaGreatDoor

namespace Go.Proofs.YtocibklkpnblgaaGreatDoor
open Go.RowKit
set_option linter.unusedSimpArgs false
set_option linter.unusedVariables false

theorem dig_self (d : List UInt8) (hd : d.length = 32) (w : World) : (binOp .eql 24 (.agg (bc d)) (.agg (bc d))).run Tryz.prog w = .ok (.bool true) w := by
  obtain ⟨la, hla⟩ := keyLits_ints (P := Tryz.prog) 24 5 32 .u8 Tryz.underlying24 Tryz.underlying5 (by kernel_rfl) (by kernel_rfl) (d.map fun b => (b.toNat : Int)) (by simpa using hd) (fun z hz => by
    obtain ⟨b, _, rfl⟩ := List.mem_map.1 hz
    have := b.toNat_lt
    simp [Lit.wf, IntKind.min, IntKind.max, IntKind.signed, IntKind.bits]; omega)
  refine eql_refl 24 2 2 (by omega) (by kernel_rfl) _ ?_ la ?_ w
  · simp only [Value.formed, Tryz.underlying24, bc_size, hd]; kernel_rfl
  · rw [← hla]; simp [bc, Lib.byteCells]; rfl
end Go.Proofs.YtocibklkpnblgaaGreatDoor

namespace Go.Proofs.YtocibklkpnblgaaGreatDoor
open Go Go.RowKit
set_option linter.unusedSimpArgs false
set_option linter.unusedVariables false

theorem verify_empty (root d : Array Value) (w : World) :
    Calls Tryz.prog 39 #[.pointer none, .agg root, .agg d, .agg sigZ] w fun e w' => e = .returned (.bool false) ∧ Below w.heap.size w w' := by
  have hb := bel3 w (.cells root 24) (.cells d 24) (.cells sigZ 27)
  have hk := hide fun W => isKey_calls 0 W
  unfold sigZ at *
  go_enter Tryz.func39, Tryz.ntmps39
  go_wp2_with fail
  refine (unhide hk _).mono ?_
  rintro e w1 ⟨rfl, rfl⟩
  go_wp2
  go_ret
  exact ⟨rfl, hb⟩
theorem path_dl {w : World} {ds : List (List UInt8)} (hds : ds.length = 16) (h : ∀ d ∈ ds, d.length = 32) (x : Nat) (hx : x < 16) (gp : Nat) (t : TypeId) (hg : w.heap[gp]? = some (.cells (bc (pathB ds x 4)) t (0, 0))) : DL w (some ⟨gp, 0, none⟩) (kPath ds x) := by
  refine DL_of_cells (fun d hd => ?_) hg ?_
  · obtain ⟨i, hi, rfl⟩ := List.mem_map.1 hd
    exact pathAt_length ds hds h x hx i (List.mem_range.1 hi)
  · have e : (kPath ds x).flatten = pathB ds x 4 := by unfold kPath pathB; rw [List.flatMap_def]
    have hl := pathB_length ds hds h x hx 4 (Nat.le_refl _)
    rw [e, kPath_length, List.take_of_length_le (by simp [bc_size, hl])]
    simp [bc]
set_option maxHeartbeats 4000000 in
set_option maxRecDepth 100000 in
theorem verify_true (seed d : List UInt8) (hs : seed.length = 32) (hd : d.length = 32) (ds : List (List UInt8)) (hds : ds.length = 16) (h32 : ∀ d ∈ ds, d.length = 32) (x : Nat) (hx : x < 16) (hw : ds.getD x [] = pWord seed x) (B : Nat) (cs : Array Value) (w : World) (hS : SigAt w B seed d ds x cs) (tabs : Tabs w) :
    Calls Tryz.prog 39 #[.pointer none, .agg (bc (kRoot ds)), .agg (bc d), .agg cs] w fun e w' => e = .returned (.bool true) ∧ Below w.heap.size w w' := by
  obtain ⟨g, gp, _, _, rfl, s1, s2, s3⟩ := hS.ex
  have hRl := kRoot_length ds hds
  have hiR := digInfo _ hRl
  have hid := digInfo d hd
  have hk := hide fun W => isKey_calls (x : Int) W
  have hkk : (if (0 : Int) ≤ (x : Int) then decide ((x : Int) < 16) else false) = true := by rw [if_pos (by omega)]; simp; omega
  rw [hkk] at hk
  have hPl := pParts_length seed x d 32
  have hOl := pOthers_length seed x d 32
  have co := hide fun W h1 h2 b1 b2 t => opened_calls d hd (pParts seed x d 32) (pOthers seed x d 32) hPl hOl g 0 32 (g + 1) 0 32 W h1 h2 b1 b2 t
  rw [open_word] at co
  have hWl := pWord_length seed x
  have hiW := digInfo _ hWl
  have hzW := zeroSize _ hWl
  have cc := hide fun W hD t => kclimb_calls (pWord seed x) hWl x (by omega) (kPath ds x) (some ⟨gp, 0, none⟩) 4 (by rw [kPath_length]; omega) W hD t
  rw [kPath_length, ← hw, kClimb_root ds hds x hx, hw] at cc
  have heq := hide fun W => dig_self (kRoot ds) hRl W
  have hpd := hide fun (W : World) hg => path_dl (w := W) hds h32 x hx gp 24 hg
  clear hw hS
  generalize kRoot ds = R at *
  generalize pWord seed x = WD at *
  obtain ⟨q0, q1, q2⟩ := al3 w (.cells (bc R) 24) (.cells (bc d) 24) (.cells #[.int .i64 (x : Int), .slice (some ⟨g, 0, none⟩) 32 32, .slice (some ⟨g + 1, 0, none⟩) 32 32, .slice (some ⟨gp, 0, none⟩) 4 4] 27)
  have hb := bel3 w (.cells (bc R) 24) (.cells (bc d) 24) (.cells #[.int .i64 (x : Int), .slice (some ⟨g, 0, none⟩) 32 32, .slice (some ⟨g + 1, 0, none⟩) 32 32, .slice (some ⟨gp, 0, none⟩) 4 4] 27)
  have u1 := hide (Below.at hb (Array.getElem?_eq_some_iff.1 s1).1 s1)
  have u2 := hide (Below.at hb (Array.getElem?_eq_some_iff.1 s2).1 s2)
  have u3 := hide (Below.at hb (Array.getElem?_eq_some_iff.1 s3).1 s3)
  have HT := hide (tabs.below hb (Nat.le_refl _))
  clear hkk hRl s1 s2 s3 tabs hPl hOl h32 hds
  obtain ⟨X, hX⟩ : ∃ X, ((w.alloc (.cells (bc R) 24)).alloc (.cells (bc d) 24)).alloc (.cells #[.int .i64 (x : Int), .slice (some ⟨g, 0, none⟩) 32 32, .slice (some ⟨g + 1, 0, none⟩) 32 32, .slice (some ⟨gp, 0, none⟩) 4 4] 27) = X := ⟨_, rfl⟩
  rw [hX] at q0 q1 q2 hb u1 u2 u3 HT
  have HX := hide hX
  have zX := (Array.getElem?_eq_some_iff.1 q2).1
  have c0 : X.cell? ⟨w.heap.size + 1 + 1, 0, none⟩ = some (.int .i64 (x : Int)) := cell_of_row _ _ _ _ _ _ q2
  have c1 : X.cell? ⟨w.heap.size + 1 + 1, 1, none⟩ = some (.slice (some ⟨g, 0, none⟩) 32 32) := cell_of_row _ _ _ _ _ _ q2
  have c2 : X.cell? ⟨w.heap.size + 1 + 1, 2, none⟩ = some (.slice (some ⟨g + 1, 0, none⟩) 32 32) := cell_of_row _ _ _ _ _ _ q2
  have c3 : X.cell? ⟨w.heap.size + 1 + 1, 3, none⟩ = some (.slice (some ⟨gp, 0, none⟩) 4 4) := cell_of_row _ _ _ _ _ _ q2
  clear hX
  go_enter Tryz.func39, Tryz.ntmps39
  go_wp2_with (rw [unhide HX])
  refine (unhide hk _).mono ?_
  rintro e w1 ⟨rfl, h1⟩
  rw [h1]
  clear h1
  go_wp2_with (refine wpList_load_row rfl 24 (.tmp 6) rfl (w.heap.size + 1) rfl 24 _ (0, 0) _ q1 Tryz.underlying24 rfl hid ?_)
  refine (unhide co _ (Array.getElem?_eq_some_iff.1 (unhide u1)).1 (Array.getElem?_eq_some_iff.1 (unhide u2)).1 (bytes_of_row (unhide u1)) (bytes_of_row (unhide u2)) (unhide HT)).mono ?_
  rintro e w2 ⟨rfl, b2⟩
  have z2 := b2.size
  have bW2 : Below w.heap.size w w2 := hb.trans (b2.mono hb.size)
  go_wp2_with (refine wpList_store_new rfl 24 (.tmp 9) (.tmp 29) rfl w2 _ _ WD rfl rfl hiW hzW ?_; intro w3 q9 b3 z3)
  have b13 : Below X.heap.size X w3 := b2.trans (b3.mono z2)
  have bW3 : Below w.heap.size w w3 := bW2.trans (b3.mono bW2.size)
  have p0 := Below.at b13 (Array.getElem?_eq_some_iff.1 q0).1 q0
  have p2 := Below.at b13 zX q2
  have p3 := Below.at b13 (Array.getElem?_eq_some_iff.1 (unhide u3)).1 (unhide u3)
  have t3 := (unhide HT).below b13 (Nat.le_refl _)
  have zp2 := (Array.getElem?_eq_some_iff.1 p2).1
  obtain ⟨K, hK⟩ : ∃ K, w2.heap.size = K := ⟨_, rfl⟩
  rw [hK] at q9
  rw [hK]
  have R0 : Hid (∀ w', (∃ p : Regrown, w' = Sort.grow (redrawn w3 p.d) p.os) → w'.heap[w.heap.size]? = some (.cells (bc R) 24 (0, 0))) := fun w' ⟨p, hp⟩ => by rw [hp]; exact Below.at (below_regrown w3 p.d p.os) (Array.getElem?_eq_some_iff.1 p0).1 p0
  have R9 : Hid (∀ w', (∃ p : Regrown, w' = Sort.grow (redrawn w3 p.d) p.os) → w'.heap[K]? = some (.cells (bc WD) 24 (0, 0))) := fun w' ⟨p, hp⟩ => by rw [hp]; exact Below.at (below_regrown w3 p.d p.os) (Array.getElem?_eq_some_iff.1 q9).1 q9
  have d0 : ∀ d os, (Sort.grow (redrawn w3 d) os).cell? ⟨w.heap.size + 1 + 1, 0, none⟩ = some (.int .i64 (x : Int)) := fun d os => by
    rw [(below_regrown w3 d os).cell (p := ⟨w.heap.size + 1 + 1, 0, none⟩) zp2]; exact cell_of_row _ _ _ _ _ _ p2
  have d3 : ∀ d os, (Sort.grow (redrawn w3 d) os).cell? ⟨w.heap.size + 1 + 1, 3, none⟩ = some (.slice (some ⟨gp, 0, none⟩) 4 4) := fun d os => by
    rw [(below_regrown w3 d os).cell (p := ⟨w.heap.size + 1 + 1, 3, none⟩) zp2]; exact cell_of_row _ _ _ _ _ _ p2
  have kC := hide fun d os => Calls.regrown_of (w := w3) (d := d) (os := os) (unhide cc _ (unhide hpd _ (Below.at (below_regrown w3 d os) (Array.getElem?_eq_some_iff.1 p3).1 p3)) (t3.below (below_regrown w3 d os) (Nat.le_refl _)))
  clear c0 c1 c2 c3 q0 q1 q2 q9 p0 p2 p3 t3 b2 b3 b13 z2 z3 hK zp2 zX bW2
  go_wp2_with fail
  refine wp_region_below mixed (by kernel_rfl) ?_
  quiet_step (fail)
  quiet_step (fail)
  quiet_step (fail)
  refine wpQuiet_load_row rfl 24 (.tmp 9) rfl K rfl 24 _ (0, 0) _ (unhide R9) Tryz.underlying24 rfl hiW ?_
  quiet_step (fail)
  quiet_step (fail)
  quiet_step (fail)
  quiet_step (fail)
  quiet_step (exact unhide kC _ _)
  refine wpQuiet_load_row rfl 24 (.tmp 5) rfl w.heap.size rfl 24 _ (0, 0) _ (unhide R0) Tryz.underlying24 rfl hiR ?_
  refine wpQuiet_eql rfl 24 24 (.tmp 39) (.tmp 40) rfl _ _ rfl rfl (by kernel_rfl) true (unhide heq) ?_
  quiet_step (fail)
  repeat (quiet_step (fail))
  refine wpQuiet_nil ?_
  intro w4 b4
  go_wp2
  go_ret
  exact ⟨rfl, bW3.trans (b4.mono bW3.size)⟩
end Go.Proofs.YtocibklkpnblgaaGreatDoor

namespace Go.Proofs.YtocibklkpnblgaaGreatDoor
open Go Go.RowKit
set_option linter.unusedSimpArgs false
set_option linter.unusedVariables false

set_option maxHeartbeats 4000000 in
set_option maxRecDepth 100000 in
theorem uright_of (root : List UInt8) (hr : root.length = 32) (home : Nat) (hh : home < 4294967296) (a b : List UInt8) (ha : a.length = 32) (hb : b.length = 32) (cs : Array Value) (hc : cs.size = 4) (res : Bool) (w : World) (tabs : Tabs w)
    (hv : ∀ W, Below w.heap.size w W → Calls Tryz.prog 39 #[.pointer none, .agg (bc root), .agg (bc (pClaim home a b)), .agg cs] W fun e w' => e = .returned (.bool res) ∧ Below W.heap.size W w') :
    Calls Tryz.prog 18 #[.pointer none, .agg (bc root), .agg (updc home a b cs)] w fun e w' => e = .returned (.bool res) ∧ Below w.heap.size w w' := by
  have hir := digInfo root hr
  obtain ⟨q0, q1⟩ := al2 w (.cells (bc root) 24) (.cells (updc home a b cs) 29)
  have hbW := bel2 w (.cells (bc root) 24) (.cells (updc home a b cs) 29)
  have cl := hide fun W t => claim_calls home hh a b ha hb W t
  have HV := hide hv
  obtain ⟨X, hX⟩ : ∃ X, (w.alloc (.cells (bc root) 24)).alloc (.cells (updc home a b cs) 29) = X := ⟨_, rfl⟩
  rw [hX] at q0 q1 hbW
  have HX := hide hX
  have tX := tabs.below hbW (Nat.le_refl _)
  have zX := (Array.getElem?_eq_some_iff.1 q1).1
  have R0 : Hid (∀ w', (∃ p : Regrown, w' = Sort.grow (redrawn X p.d) p.os) → w'.heap[w.heap.size]? = some (.cells (bc root) 24 (0, 0))) := fun w' ⟨p, hp⟩ => by rw [hp]; exact Below.at (below_regrown X p.d p.os) (Array.getElem?_eq_some_iff.1 q0).1 q0
  have R1 : ∀ w' : World, (∃ p : Regrown, w' = Sort.grow (redrawn X p.d) p.os) → w'.heap[w.heap.size + 1]? = some (.cells (updc home a b cs) 29 (0, 0)) := fun w' ⟨p, hp⟩ => by rw [hp]; exact Below.at (below_regrown X p.d p.os) zX q1
  have RA : Hid (∀ w', (∃ p : Regrown, w' = Sort.grow (redrawn X p.d) p.os) → w'.rangeAt (w.heap.size + 1) 1 (Lib.byteCells a)) := hide fun w' hp => updc_old home a b ha hb cs w' _ _ (R1 w' hp)
  have RB : Hid (∀ w', (∃ p : Regrown, w' = Sort.grow (redrawn X p.d) p.os) → w'.rangeAt (w.heap.size + 1) 33 (Lib.byteCells b)) := hide fun w' hp => updc_new home a b ha hb cs w' _ _ (R1 w' hp)
  have RS : Hid (∀ w', (∃ p : Regrown, w' = Sort.grow (redrawn X p.d) p.os) → w'.rangeAt (w.heap.size + 1) 65 cs.toList) := hide fun w' hp => updc_sig home a b ha hb cs hc w' _ _ (R1 w' hp)
  have c0 : ∀ d os, (Sort.grow (redrawn X d) os).cell? ⟨w.heap.size + 1, 0, none⟩ = some (.int .u32 (home : Int)) := fun d os => by
    rw [cell_of_row _ _ _ _ _ _ (R1 _ ⟨⟨d, os⟩, rfl⟩)]; exact updc_home home a b cs
  have kC := hide fun d os => Calls.regrown_of (w := X) (d := d) (os := os) (unhide cl _ (tX.below (below_regrown X d os) (Nat.le_refl _)))
  have kV := hide fun d os => Calls.regrown_of (w := X) (d := d) (os := os) (unhide HV _ (hbW.trans ((below_regrown X d os).mono hbW.size)))
  have Ha := hide ha
  have Hb := hide hb
  have Hc := hide hc
  generalize pClaim home a b = D at *
  generalize updc home a b cs = UC at *
  clear tX tabs hv R1 q0 q1 zX hX ha hb hc
  go_enter Tryz.func18, Tryz.ntmps18
  go_wp2_with (rw [unhide HX])
  refine wp_region_below mixed (by kernel_rfl) ?_
  quiet_step (fail)
  refine wpQuiet_load_row rfl 24 (.tmp 4) rfl w.heap.size rfl 24 _ (0, 0) _ (unhide R0) Tryz.underlying24 rfl hir ?_
  quiet_step (fail)
  quiet_step (fail)
  quiet_step (fail)
  quiet_step (fail)
  refine wpQuiet_load_mid rfl 24 (.tmp 12) rfl (w.heap.size + 1) 1 rfl (Lib.byteCells a) _ (unhide RA) Tryz.underlying24 rfl (by rw [Lib.byteCells_length, unhide Ha]; kernel_rfl) ?_
  quiet_step (fail)
  refine wpQuiet_load_mid rfl 24 (.tmp 14) rfl (w.heap.size + 1) 33 rfl (Lib.byteCells b) _ (unhide RB) Tryz.underlying24 rfl (by rw [Lib.byteCells_length, unhide Hb]; kernel_rfl) ?_
  quiet_step (exact unhide kC _ _)
  quiet_step (fail)
  refine wpQuiet_load_mid rfl 27 (.tmp 17) rfl (w.heap.size + 1) 65 rfl cs.toList _ (unhide RS) Tryz.underlying27 rfl (by rw [Array.length_toList, unhide Hc]; kernel_rfl) ?_
  quiet_step (exact unhide kV _ _)
  repeat (quiet_step (fail))
  refine wpQuiet_nil ?_
  intro w2 b2
  go_wp2
  go_ret
  exact ⟨rfl, hbW.trans (b2.mono hbW.size)⟩
theorem built_upd (home : Nat) (a b : List UInt8) (ha : a.length = 32) (hb : b.length = 32) (x : Int) (p1 p2 p3 : Option Addr) (n1 n2 n3 c1 c2 c3 : Nat) : Tryz.prog.built 29 [(0, .int .u32 (home : Int)), (1, .agg (bc a)), (2, .agg (bc b)), (3, .agg #[.int .i64 x, .slice p1 n1 c1, .slice p2 n2 c2, .slice p3 n3 c3])] = some (updc home a b #[.int .i64 x, .slice p1 n1 c1, .slice p2 n2 c2, .slice p3 n3 c3]) := by
  obtain ⟨a0, a1, a2, a3, a4, a5, a6, a7, a8, a9, a10, a11, a12, a13, a14, a15, a16, a17, a18, a19, a20, a21, a22, a23, a24, a25, a26, a27, a28, a29, a30, a31, rfl⟩ := list32 a ha
  obtain ⟨b0, b1, b2, b3, b4, b5, b6, b7, b8, b9, b10, b11, b12, b13, b14, b15, b16, b17, b18, b19, b20, b21, b22, b23, b24, b25, b26, b27, b28, b29, b30, b31, rfl⟩ := list32 b hb
  kernel_rfl
end Go.Proofs.YtocibklkpnblgaaGreatDoor
