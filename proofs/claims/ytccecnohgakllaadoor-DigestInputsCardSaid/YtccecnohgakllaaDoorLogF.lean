/-
  A LOG AND SOME DIGESTS' BLOCKS BESIDE IT: what is kept where a region draws its order over two calls and two allocs. What Count and Clash say of two inputs.
-/
import Derived.Test.YtccecnohgakllaaDoorLogA
namespace Go.Proofs.YtccecnohgakllaaDoor
open Go Go.RowKit Go.Maps
set_option linter.unusedSimpArgs false
set_option linter.unusedVariables false

structure Fr (X : World) (b : Nat) (ms : Option (Nat × Nat)) (ins : List (List UInt8)) (cl : List (Nat × Array Value)) (W : World) : Prop where
  bel : Below X.heap.size X W
  nb : X.heap.size ≤ b
  nm : ∀ m, ms = some m → X.heap.size ≤ m.1 ∧ X.heap.size ≤ m.2
  log : LogAt W b ms ins
  cells : ∀ q ∈ cl, W.heap[q.1]? = some (.cells q.2 24 (0, 0)) ∧ X.heap.size ≤ q.1 ∧ q.1 ≠ b ∧ ∀ m, ms = some m → q.1 ≠ m.1 ∧ q.1 ≠ m.2
theorem Fr.call {X W W' : World} {b : Nat} {ms : Option (Nat × Nat)} {m' : Nat × Nat} {ins ins' : List (List UInt8)} {cl : List (Nat × Array Value)} (h : Fr X b ms ins cl W) (hL : LogAt W' b (some m') ins') (hX : ExtM W ms m') (hB : But b ms W W') : Fr X b (some m') ins' cl W' := by
  have hlt := h.log.lt
  have hn : ∀ m, some m' = some m → X.heap.size ≤ m.1 ∧ X.heap.size ≤ m.2 := fun m hm => by
    obtain rfl := Option.some.inj hm
    cases hms : ms with
    | none => have := hX.2 hms; have := h.bel.size; omega
    | some m => rw [hX.1 m hms]; exact h.nm m hms
  refine ⟨hB.below h.bel h.bel.size h.nb h.nm, h.nb, hn, hL, fun q hq => ?_⟩
  obtain ⟨c1, c2, c3, c4⟩ := h.cells q hq
  have hql := (Array.getElem?_eq_some_iff.1 c1).1
  refine ⟨(hB.block _ hql c3 c4).trans c1, c2, c3, fun m hm => ?_⟩
  obtain rfl := Option.some.inj hm
  cases hms : ms with
  | none => have := hX.2 hms; omega
  | some m => rw [hX.1 m hms]; exact c4 m hms
theorem Fr.alloc {X W : World} {b : Nat} {ms : Option (Nat × Nat)} {ins : List (List UInt8)} {cl : List (Nat × Array Value)} (h : Fr X b ms ins cl W) (Z : Array Value) : Fr X b ms ins ((W.heap.size, Z) :: cl) (W.alloc (.cells Z 24)) := by
  have hb : Below W.heap.size W (W.alloc (.cells Z 24)) := (Below.refl _ _).alloc (Nat.le_refl _) _
  have hlt := h.log.lt
  refine ⟨h.bel.alloc h.bel.size _, h.nb, h.nm, h.log.below' hb, fun q hq => ?_⟩
  rcases List.mem_cons.1 hq with rfl | hq
  · exact ⟨al1 _ _, h.bel.size, by have := hlt.1; show W.heap.size ≠ b; omega, fun m hm => by have := hlt.2 m hm; show W.heap.size ≠ m.1 ∧ W.heap.size ≠ m.2; omega⟩
  · obtain ⟨c1, c2, c3, c4⟩ := h.cells q hq
    exact ⟨Below.at hb (Array.getElem?_eq_some_iff.1 c1).1 c1, c2, c3, c4⟩
theorem Fr.fresh {X W : World} {b : Nat} {ms : Option (Nat × Nat)} {ins : List (List UInt8)} {cl : List (Nat × Array Value)} (h : Fr X b ms ins cl W) : ∀ q ∈ cl, q.1 ≠ W.heap.size := fun q hq => by
  have := (Array.getElem?_eq_some_iff.1 (h.cells q hq).1).1
  omega
theorem Fr.set {X W : World} {b g g' : Nat} {ms : Option (Nat × Nat)} {ins : List (List UInt8)} {Z Z' : Array Value} (D : Array Value) {cl : List (Nat × Array Value)} (h : Fr X b ms ins cl W) (hg : (g, Z) ∈ cl) (hg' : (g', Z') ∈ cl) (hne : g ≠ g') : Fr X b ms ins [(g, D), (g', Z')] (W.setRow g D) := by
  obtain ⟨c1, c2, c3, c4⟩ := h.cells _ hg
  refine ⟨below_setRow h.bel c2 _, h.nb, h.nm, h.log.setRow D (Ne.symm c3) (fun m hm => ⟨fun e => (c4 m hm).1 e.symm, fun e => (c4 m hm).2 e.symm⟩), fun q hq => ?_⟩
  rcases List.mem_cons.1 hq with rfl | hq
  · exact ⟨setRow_heap _ _ _ _ _ _ c1, c2, c3, c4⟩
  · obtain rfl : q = (g', Z') := by simpa using hq
    obtain ⟨d1, d2, d3, d4⟩ := h.cells _ hg'
    exact ⟨(setRow_other W g g' D (Ne.symm hne)).trans d1, d2, d3, d4⟩
/-- The log's Count and Clash of two inputs. -/
theorem two_same (I : List UInt8) : dcount ([I, I].map Lit.string) = 1 ∧ dcount ([I, I].map fun s => dKey (pSum [s])) = 1 := ⟨dcount_same _ (isKey_s I), dcount_same _ (isKey_d I)⟩
theorem two_clash (I J : List UInt8) (h : I ≠ J) (hd : pSum [I] = pSum [J]) : dcount ([I, J].map Lit.string) = 2 ∧ dcount ([I, J].map fun s => dKey (pSum [s])) = 1 := by
  refine ⟨dcount_diff _ _ (fun e => h (by injection e)), ?_⟩
  show dcount [dKey (pSum [I]), dKey (pSum [J])] = 1
  rw [← hd]
  exact dcount_same _ (isKey_d I)
theorem two_diff (I J : List UInt8) (h : I ≠ J) (hd : pSum [I] ≠ pSum [J]) : dcount ([I, J].map Lit.string) = 2 ∧ dcount ([I, J].map fun s => dKey (pSum [s])) = 2 := by
  refine ⟨dcount_diff _ _ (fun e => h (by injection e)), ?_⟩
  show dcount [dKey (pSum [I]), dKey (pSum [J])] = 2
  exact dcount_diff _ _ (fun e => hd (dKey_inj _ _ (pSum_length _) (pSum_length _) e))
end Go.Proofs.YtccecnohgakllaaDoor
