/-
  A SLICE OF ROWS THAT THE CALL OWNS: a slice literal of one row; a row appended. Over whatever program.
-/
import Derived.Test.YtccecnohgakllaaDoorKit
import Derived.Great.BuildSlice
import Derived.Laws.AppendOwn
import Derived.Laws.OwnMore
namespace Go.Proofs.YtccecnohgakllaaDoor
open Go Go.RowKit
set_option linter.unusedSimpArgs false
set_option linter.unusedVariables false

theorem fill_one {s : Nat} (hs : 0 < s) (cs cells : Array Value) (hc : cs.size = s) (hz : cells.size = s) : Instr.fill (fun i => some (i * s, s)) cells [(0, .agg cs)] = some cs := by
  obtain ⟨r, hr, hsz, hk⟩ := Great.fill_dense hs [.agg cs] 0 cells (by simp [Value.cells, hc]) (by simp [hz])
  have e : r = cs := by
    apply Array.ext_getElem?
    intro k
    rw [hk k]
    by_cases h : k < s
    · rw [if_pos (by simp; omega)]
      simp [Nat.div_eq_of_lt h, Nat.mod_eq_of_lt h, Value.cells]
    · rw [if_neg (by simp; omega), Array.getElem?_eq_none (by omega), Array.getElem?_eq_none (by omega)]
  rw [e] at hr
  exact hr
theorem rowInfo {P : Program} {e : TypeId} {s b : Nat} (hi : (P.info? e).map (fun i => (i.size, i.bytes, i.zero.map (·.cells.size))) = some (s, b, some s)) : ∃ i z, P.info? e = some i ∧ i.zero = some z ∧ i.size = s ∧ i.bytes = b ∧ z.cells.size = s := by
  cases hq : P.info? e with
  | none => rw [hq] at hi; cases hi
  | some i =>
    rw [hq] at hi
    simp only [Option.map_some, Option.some.injEq, Prod.mk.injEq] at hi
    obtain ⟨h1, h2, h3⟩ := hi
    cases hz : i.zero with
    | none => rw [hz] at h3; cases h3
    | some z =>
      rw [hz] at h3
      simp only [Option.map_some, Option.some.injEq] at h3
      exact ⟨i, z, rfl, hz, h1, h2, h3⟩
theorem wpList_build_one {P : Program} {ops : Array Oper} {rest : List Oper} {o : Oper} {a : Act} {w : World} {Q : Exit → Act → World → Prop} (hg : o.guard = none) (t e : TypeId) (x : Operand) (ho : o.op = .buildSlice t 1 #[(0, x)]) (s b : Nat) (hs : 0 < s) (hs2 : s ≤ 1000)
    (cs : Array Value) (hx : a.eval x = .agg cs) (hc : cs.size = s) (hu : P.underlying t = some (.slice e)) (hi : (P.info? e).map (fun i => (i.size, i.bytes, i.zero.map (·.cells.size))) = some (s, b, some s))
    (h : wpList P ops Q rest (a.put o.dst (.slice (some ⟨w.heap.size, 0, none⟩) 1 1)) (w.alloc (.cells cs e))) : wpList P ops Q (o :: rest) a w := by
  obtain ⟨i, z, hie, hz, h1, h2, h3⟩ := rowInfo hi
  refine wpList_buildSlice hg t e 1 #[(0, x)] ho cs i z hu hie hz (by rw [h1]; omega) (by rw [h1]; omega) ?_ h
  rw [h1, show (#[(0, x)].map fun (p : Nat × Operand) => (p.1, a.eval p.2)).toList = [(0, .agg cs)] by simp [hx]]
  exact fill_one hs cs _ hc (by simp)
theorem wpList_append_one {P : Program} {ops : Array Oper} {rest : List Oper} {o : Oper} {a : Act} {Q : Exit → Act → World → Prop} (hgd : o.guard = none) (t e : TypeId) (sx x : Operand)
    (ho : o.op = .call { callee := .builtin .append, args := #[sx, x], argTypes := #[t, t] }) (s b : Nat) (hs : 0 < s) (hb2 : b ≤ 100000) (hu : P.underlying t = some (.slice e)) (hi : (P.info? e).map (fun i => (i.size, i.bytes, i.zero.map (·.cells.size))) = some (s, b, some s))
    (B : Nat) (v : Value) (n : Nat) (xs : List Value) (hv : a.eval sx = v) (wr : World) (hown : wr.ownsRow B e s v n xs) (hB : B ≤ wr.heap.size) (cs : Array Value) (hc : cs.size = s) (h1 : cs.all (·.oneCell') = true)
    (hx : a.eval x = .slice (some ⟨wr.heap.size, 0, none⟩) 1 1) (hlen : n + 1 ≤ 1048576)
    (h : ∀ v' w', w'.ownsRow B e s v' (n + 1) (xs ++ cs.toList) → Below B wr w' → (∀ k, k < wr.heap.size → some k ≠ v.ownBlock → w'.heap[k]? = wr.heap[k]?) → wpList P ops Q rest (a.put o.dst v') w') : wpList P ops Q (o :: rest) a (wr.alloc (.cells cs e)) := by
  obtain ⟨i, z, hie, hz, e1, e2, e3⟩ := rowInfo hi
  refine wpList_append_own _ hgd sx x t ho B e i z s b hu hie hz e1 e2 e3 hs v n xs hv (hown.alloc _) ⟨wr.heap.size, 0, none⟩ 1 1 cs.toList hx (by simp [hc]) ?_ ?_ (by unfold maxLen; omega) ?_ (by rw [World.size_alloc]; omega) ?_
  · intro j u hj
    rw [show (⟨wr.heap.size, 0, none⟩ : Addr).add j = ⟨wr.heap.size, j, none⟩ by unfold Addr.add; split <;> simp_all, cell_of_row _ _ _ _ _ _ (al1 wr (.cells cs e))]
    rw [← Array.getElem?_toList]; exact hj
  · intro u hu'
    exact Array.all_eq_true_iff_forall_mem.1 h1 u (Array.mem_toList_iff.1 hu')
  · exact Nat.le_trans (Nat.mul_le_mul hlen hb2) (by decide)
  · intro v' w' ho' hg _
    have kept : ∀ k, k < wr.heap.size → some k ≠ v.ownBlock → w'.heap[k]? = wr.heap[k]? := fun k hk hn => (hg.block k (by rw [World.size_alloc]; omega) hn).trans (Below.heap_alloc wr _ k hk)
    refine h v' w' ho' ?_ kept
    have hA := (Below.refl B wr).alloc hB (.cells cs e)
    refine hA.trans ⟨hg.os, hg.tape, hg.output, hg.size, fun k hk => hg.block k (by rw [World.size_alloc]; omega) ?_⟩
    intro hc'
    have := (hown.lt k hc'.symm).1
    omega
end Go.Proofs.YtccecnohgakllaaDoor
