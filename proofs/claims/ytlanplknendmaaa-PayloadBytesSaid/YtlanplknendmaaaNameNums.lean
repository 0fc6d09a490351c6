/-
  WHAT THE DOCUMENT'S OWN Numbers OF LAYER 2 RETURNS: a new list of what the runes and strays count as.
-/
import Derived.Test.YtlanplknendmaaaNameOne3
import Derived.Laws.AppendOwn
import Derived.Laws.OwnMore
namespace Go.Proofs.Ytlanplknendmaaa
open Go.RowKit
set_option linter.unusedSimpArgs false
set_option linter.unusedVariables false

def nums (l : List UInt8) : List Nat := (tk l).map tokNum
def ic (xs : List Nat) : List Value := xs.map fun n : Nat => Value.int .i64 (n : Int)
theorem ic_length (xs : List Nat) : (ic xs).length = xs.length := by simp [ic]
theorem ic_snoc (xs : List Nat) (n : Nat) : ic (xs ++ [n]) = ic xs ++ [.int .i64 (n : Int)] := by simp [ic]
/-- A list of numbers in memory. -/
def NumsAt (w : World) (v : Value) (xs : List Nat) : Prop :=
  ∃ p cap, v = .slice p xs.length cap ∧ (xs ≠ [] → ∃ g, p = some ⟨g, 0, none⟩ ∧ g < w.heap.size ∧ ∀ j, j < xs.length → w.cell? ⟨g, j, none⟩ = some (.int .i64 ((xs.getD j 0 : Nat) : Int)))
theorem intInfo : ∃ i, Try.prog.info? 3 = some i ∧ i.zero = some (.int .i64 0) ∧ i.size = 1 ∧ i.bytes = 8 := by
  have e : (Try.prog.info? 3).map (fun i => (i.zero, i.size, i.bytes)) = some (some (.int .i64 0), 1, 8) := by kernel_rfl
  cases hq : Try.prog.info? 3 with
  | none => rw [hq] at e; cases e
  | some i =>
    rw [hq] at e
    simp only [Option.map_some, Option.some.injEq, Prod.mk.injEq] at e
    exact ⟨i, rfl, e.1, e.2.1, e.2.2⟩
/-- A slice of numbers that the call owns. -/
structure NBuf (w0 : World) (v : Value) (xs : List Nat) (w : World) : Prop where
  own : w.ownsRow w0.heap.size 3 1 v xs.length (ic xs)
  below : Below w0.heap.size w0 w
theorem NBuf.numsAt {w0 w : World} {v : Value} {xs : List Nat} (h : NBuf w0 v xs w) : NumsAt w v xs := by
  have h0 := h.own
  obtain ⟨h1, h2⟩ := h0
  rcases h2 with ⟨rfl, h3⟩ | ⟨g, cap, cur, rfl, hB, hg, hc, hm, hs, ht⟩
  · refine ⟨none, 0, by rw [h3], fun hx => absurd (List.eq_nil_of_length_eq_zero h3) hx⟩
  · refine ⟨some ⟨g, 0, none⟩, cap, rfl, fun _ => ⟨g, rfl, (Array.getElem?_eq_some_iff.1 hg).1, fun j hj => ?_⟩⟩
    have := h.own.cells (g := g) rfl j (.int .i64 ((xs.getD j 0 : Nat) : Int)) (by simp [ic, hj])
    rw [show (⟨g, 0, none⟩ : Addr).add j = ⟨g, j, none⟩ by unfold Addr.add; split <;> simp_all] at this
    exact this
theorem wpList_append_n {ops : Array Oper} {rest : List Oper} {o : Oper} {a : Act} {Q : Exit → Act → World → Prop} (hgd : o.guard = none) (s x : Operand)
    (ho : o.op = .call { callee := .builtin .append, args := #[s, x], argTypes := #[83, 83] })
    (w0 : World) (xs : List Nat) (v : Value) (hs : a.eval s = v) (wr : World) (n : Nat) (hb : NBuf w0 v xs wr)
    (hx : a.eval x = .slice (some ⟨wr.heap.size, 0, none⟩) 1 1) (hlen : xs.length + 1 ≤ 1099511627776)
    (h : ∀ v' w', NBuf w0 v' (xs ++ [n]) w' → wpList Try.prog ops Q rest (a.put o.dst v') w') : wpList Try.prog ops Q (o :: rest) a (wr.alloc (.cells #[.int .i64 (n : Int)] 3)) := by
  obtain ⟨i, hi, hz, h1, h2⟩ := intInfo
  have hzr := hb.below.size
  refine wpList_append_own _ hgd s x 83 ho w0.heap.size 3 i (.int .i64 0) 1 8 Try.underlying83 hi hz h1 h2 rfl (by decide) v xs.length (ic xs) hs (hb.own.alloc _) ⟨wr.heap.size, 0, none⟩ 1 1 [.int .i64 (n : Int)] hx rfl ?_ ?_ (by unfold maxLen; omega) (by omega) (by rw [World.size_alloc]; omega) ?_
  · intro j u hj
    have hj0 : j = 0 := by
      have := (List.getElem?_eq_some_iff.1 hj).1; simp at this; omega
    subst hj0
    simp at hj
    subst hj
    rw [show (⟨wr.heap.size, 0, none⟩ : Addr).add 0 = ⟨wr.heap.size, 0, none⟩ by rfl]
    exact (cell_of_row _ _ _ _ _ _ (al1 wr (.cells #[.int .i64 (n : Int)] 3)))
  · intro u hu; simp at hu; subst hu; rfl
  · intro v' w' hown hg _
    refine h v' w' ⟨?_, ?_⟩
    · rw [List.length_append, ic_snoc]; exact hown
    · have hbA := hb.below.alloc hzr (.cells #[.int .i64 (n : Int)] 3)
      refine hbA.trans ⟨hg.os, hg.tape, hg.output, hg.size, fun k hk => hg.block k (by rw [World.size_alloc]; omega) ?_⟩
      intro hc
      have := (hb.own.lt k hc.symm).1
      omega
end Go.Proofs.Ytlanplknendmaaa
