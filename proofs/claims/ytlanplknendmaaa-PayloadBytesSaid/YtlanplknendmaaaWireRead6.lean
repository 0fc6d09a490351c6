/-
  WHAT A READER's Sig ANSWERS.
-/
import Derived.Test.YtlanplknendmaaaWireRead5
namespace Go.Proofs.Ytlanplknendmaaa
open Go.RowKit
set_option linter.unusedSimpArgs false
set_option linter.unusedVariables false

theorem Turned.alloc {g : Nat} {w w' : World} (h : Turned g w w') (hg : g ≤ w'.heap.size) (o : Obj) : Turned g w (w'.alloc o) :=
  h.trans (Turned.of_below ((Below.refl _ _).alloc (Nat.le_refl _) o) hg)
theorem Turned.setNew {g G o : Nat} {w w' : World} (h : Turned g w w') (hG : w.heap.size ≤ G) (hg : g ≤ G) (v : Value) : Turned g w (w'.setCell ⟨G, o, none⟩ v) :=
  ⟨h.below.setCell (by show g ≤ G; exact hg) _, fun k hk hk2 => by rw [heap_setCell_other _ _ _ _ (by show k ≠ G; omega)]; exact h.kept k hk hk2⟩
theorem RdAt.other {g G o : Nat} {w : World} {r : Rd} (h : RdAt w g r) (hG : g ≠ G) (v : Value) : RdAt (w.setCell ⟨G, o, none⟩ v) g r :=
  (heap_setCell_other w ⟨G, o, none⟩ g v (by show g ≠ G; exact hG)).trans h
theorem RdAt.alloc {g : Nat} {w : World} {r : Rd} (h : RdAt w g r) (o : Obj) : RdAt (w.alloc o) g r := (Below.heap_alloc w o g h.lt).trans h

def Rd.head (r : Rd) : Rd := if 2147483647 < (r.num 4).1 then (r.num 4).2.fail 8 else (r.num 4).2
theorem Rd.head_rest (r : Rd) : r.head.rest.length ≤ r.rest.length := by
  unfold Rd.head
  have := r.take_rest 4
  split
  · rw [Rd.fail_rest]; exact this
  · exact this
def Rd.d1 (r : Rd) : List UInt8 × Rd := r.head.digests 32
def Rd.d2 (r : Rd) : List UInt8 × Rd := r.d1.2.digests 32
def Rd.d3 (r : Rd) : List UInt8 × Rd := r.d2.2.digests 32
theorem Rd.d1_rest (r : Rd) : r.d1.2.rest.length ≤ r.rest.length := Nat.le_trans (Rd.digests_rest _ _) r.head_rest
theorem Rd.d2_rest (r : Rd) : r.d2.2.rest.length ≤ r.rest.length := Nat.le_trans (Rd.digests_rest _ _) r.d1_rest
theorem Rd.d3_rest (r : Rd) : r.d3.2.rest.length ≤ r.rest.length := Nat.le_trans (Rd.digests_rest _ _) r.d2_rest


end Go.Proofs.Ytlanplknendmaaa
