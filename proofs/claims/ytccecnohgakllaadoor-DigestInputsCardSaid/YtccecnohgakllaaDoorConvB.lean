/-
  BYTES IN MEMORY FROM A PLACE ON; '[]byte(s)' UNDER A NAME OF ITS OWN: the world behind it, its capacity, and what is known of them.
-/
import Derived.Test.YtccecnohgakllaaDoorCellsB
import Derived.Laws.IdiomStrings
namespace Go.Proofs.YtccecnohgakllaaDoor
open Go.RowKit
set_option linter.unusedSimpArgs false
set_option linter.unusedVariables false

/-- Bytes lie in memory from a place on. -/
def Bytes (w : World) (g off : Nat) (l : List UInt8) : Prop := ∀ j, j < l.length → w.cell? ⟨g, off + j, none⟩ = some (.int .u8 ((l.getD j 0).toNat : Int))
theorem Bytes.below {B g off : Nat} {l : List UInt8} {w w' : World} (h : Bytes w g off l) (hb : Below B w w') (hg : g < B) : Bytes w' g off l := fun j hj => by
  rw [hb.cell (p := ⟨g, off + j, none⟩) hg]; exact h j hj

theorem Bytes.take {w : World} {g off : Nat} {l : List UInt8} (h : Bytes w g off l) (n : Nat) : Bytes w g off (l.take n) := fun j hj => by
  have hj' : j < n ∧ j < l.length := by simp at hj; omega
  rw [h j hj'.2]
  simp [hj'.1]
theorem Bytes.drop {w : World} {g off : Nat} {l : List UInt8} (h : Bytes w g off l) (n : Nat) : Bytes w g (off + n) (l.drop n) := fun j hj => by
  have hj' : n + j < l.length := by simp at hj; omega
  rw [show off + n + j = off + (n + j) by omega, h _ hj']
  simp
def bcap (w : World) (l : List UInt8) : Nat := grownCap w l.length 0 5
def bworld (w : World) (l : List UInt8) : World := w.drew.alloc (.cells (bytesRow (str l) (bcap w l)) 5 ((bytesRow (str l) (bcap w l)).size, (bytesRow (str l) (bcap w l)).size + 1))
theorem conv_run (l : List UInt8) (w : World) : (convert 9 66 (.string (str l))).run Tryd.prog w = .ok (.slice (some ⟨w.heap.size, 0, none⟩) l.length (bcap w l)) (bworld w l) := by
  have := run_bytes_of_string (P := Tryd.prog) w 9 66 5 (str l) Tryd.underlying9 Tryd.underlying66 Tryd.underlying5
  rw [str_size] at this
  exact this
theorem bworld_size (w : World) (l : List UInt8) : (bworld w l).heap.size = w.heap.size + 1 := by simp [bworld]
theorem bworld_below {B : Nat} {W w : World} (l : List UInt8) (h : Below B W w) (hB : B ≤ w.heap.size) : Below B W (bworld w l) := (h.drew).alloc hB _
theorem bworld_bytes (w : World) (l : List UInt8) : Bytes (bworld w l) w.heap.size 0 l := fun j hj => by
  have h : (bworld w l).heap[w.heap.size]? = some (.cells (bytesRow (str l) (bcap w l)) 5 ((bytesRow (str l) (bcap w l)).size, (bytesRow (str l) (bcap w l)).size + 1)) := al1 w.drew _
  rw [cell_of_row _ _ _ _ _ _ h, Nat.zero_add, bytesRow_at _ _ _ (by simpa [str] using hj)]
  simp [str, hj]
theorem bcap_ge (w : World) (l : List UInt8) : l.length ≤ bcap w l := grownCap_ge _ _ _ _
theorem bcap_le (w : World) (l : List UInt8) (h : l.length ≤ maxLen) : bcap w l ≤ maxLen := grownCap_le_maxLen _ _ _ _ h
theorem bworld_kept {w w' : World} {l : List UInt8} (hb : Below (bworld w l).heap.size (bworld w l) w') : Hid (Bytes w' w.heap.size 0 l) ∧ w.heap.size < w'.heap.size := by
  have hz := hb.size
  have h1 := bworld_size w l
  exact ⟨(bworld_bytes w l).below hb (by omega), by omega⟩
theorem bworld_kept_drew {w w' : World} {l : List UInt8} (hb : Below (bworld w l).drew.heap.size (bworld w l).drew w') : Hid (Bytes w' w.heap.size 0 l) ∧ w.heap.size < w'.heap.size :=
  bworld_kept (l := l) ⟨hb.os, hb.tape, hb.output, hb.size, hb.block⟩
end Go.Proofs.YtccecnohgakllaaDoor
