/-
  WHAT A READER's Digests AND Sig ANSWER.
-/
import Derived.Test.YtlanplknendmaaaWireRead4
namespace Go.Proofs.Ytlanplknendmaaa
open Go.RowKit
set_option linter.unusedSimpArgs false
set_option linter.unusedVariables false

/-- A list of digests in memory: their bytes. -/
def Digs (w : World) (v : Value) (l : List UInt8) : Prop :=
  ∃ p n cap, v = .slice p n cap ∧ l.length = 32 * n ∧ (0 < n → ∃ b off, p = some ⟨b, off, none⟩ ∧ b < w.heap.size ∧ Bytes w b off l)
theorem Digs.below {w w' : World} {v : Value} {l : List UInt8} (h : Digs w v l) (hb : Below w.heap.size w w') : Digs w' v l := by
  obtain ⟨p, n, cap, rfl, hl, hp⟩ := h
  refine ⟨p, n, cap, rfl, hl, fun hn => ?_⟩
  obtain ⟨b, off, rfl, hlt, hby⟩ := hp hn
  exact ⟨b, off, rfl, Nat.lt_of_lt_of_le hlt hb.size, hby.below hb hlt⟩
/-- A new row of digests. -/
theorem digs_row {w : World} {b k : Nat} {l : List UInt8} {t : TypeId} (hl : l.length = 32 * k) (h : w.heap[b]? = some (.cells (bc l) t (0, 0))) : Digs w (.slice (some ⟨b, 0, none⟩) k k) l :=
  ⟨_, _, _, rfl, hl, fun _ => ⟨b, 0, rfl, (Array.getElem?_eq_some_iff.1 h).1, fun j hj => by rw [Nat.zero_add, cell_of_row _ _ _ _ _ _ h]; exact bc_at _ _ hj⟩⟩

theorem Rd.take_whole (r : Rd) (n : Nat) : (r.take n).1.length = 0 ∨ (r.take n).1.length = n := by
  unfold Rd.take
  split
  · simp
  · split
    · simp
    · simp; omega
/-- Digests of at most so many: their bytes. -/
def Rd.digests (r : Rd) (most : Int) : List UInt8 × Rd := (r.len most).2.take (32 * (r.len most).1)
theorem Rd.digests_rest (r : Rd) (most : Int) : (r.digests most).2.rest.length ≤ r.rest.length := Nat.le_trans (Rd.take_rest _ _) (r.len_rest most)
/-- A signature's cells. -/
def sigCells (i : Int) (a b c : Value) : Array Value := #[.int .i64 i, a, b, c]
def sig0 : Array Value := #[.int .i64 0, .slice none 0 0, .slice none 0 0, .slice none 0 0]
theorem sig_cell {w : World} {G : Nat} {cs : Array Value} {t : TypeId} (h : w.heap[G]? = some (.cells cs t (0, 0))) : (∀ j v, cs[j]? = some v → w.cell? ⟨G, j, none⟩ = some v) ∧ (∀ j, w.frozen? ⟨G, j, none⟩ = false) :=
  ⟨fun j v hv => (cell_of_row _ _ _ _ _ _ h).trans hv, fun j => frozen_of_row _ _ _ _ _ h⟩
theorem set4 (w : World) (g : Nat) (t : TypeId) (z0 z1 z2 z3 v0 v1 v2 v3 : Value) (hg : w.heap[g]? = some (.cells #[z0, z1, z2, z3] t (0, 0))) : ((((w.setCell ⟨g, 0, none⟩ v0).setCell ⟨g, 1, none⟩ v1).setCell ⟨g, 2, none⟩ v2).setCell ⟨g, 3, none⟩ v3).heap[g]? = some (.cells #[v0, v1, v2, v3] t (0, 0)) := by
  have h0 : (w.setCell ⟨g, 0, none⟩ v0).heap[g]? = some (.cells #[v0, z1, z2, z3] t (0, 0)) := heap_setCell_same _ g 0 _ t v0 hg
  have h1 : ((w.setCell ⟨g, 0, none⟩ v0).setCell ⟨g, 1, none⟩ v1).heap[g]? = some (.cells #[v0, v1, z2, z3] t (0, 0)) := heap_setCell_same _ g 1 _ t v1 h0
  have h2 : (((w.setCell ⟨g, 0, none⟩ v0).setCell ⟨g, 1, none⟩ v1).setCell ⟨g, 2, none⟩ v2).heap[g]? = some (.cells #[v0, v1, v2, z3] t (0, 0)) := heap_setCell_same _ g 2 _ t v2 h1
  exact heap_setCell_same _ g 3 _ t v3 h2
end Go.Proofs.Ytlanplknendmaaa
