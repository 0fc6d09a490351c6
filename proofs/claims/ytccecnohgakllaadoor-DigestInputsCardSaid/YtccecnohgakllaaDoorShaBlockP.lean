/-
  WHAT A BLOCK DOES TO THE EIGHT WORDS. Plain definitions and lemmas.
-/
import Derived.Test.YtccecnohgakllaaDoorShaSchedP
namespace Go.Proofs.YtccecnohgakllaaDoor
open Go.RowKit
set_option linter.unusedSimpArgs false

/-- The standard's constants. -/
def kWords : List (BitVec 32) := [1116352408, 1899447441, 3049323471, 3921009573, 961987163, 1508970993, 2453635748, 2870763221, 3624381080, 310598401, 607225278, 1426881987, 1925078388, 2162078206, 2614888103, 3248222580, 3835390401, 4022224774, 264347078, 604807628, 770255983, 1249150122, 1555081692, 1996064986, 2554220882, 2821834349, 2952996808, 3210313671, 3336571891, 3584528711, 113926993, 338241895, 666307205, 773529912, 1294757372, 1396182291, 1695183700, 1986661051, 2177026350, 2456956037, 2730485921, 2820302411, 3259730800, 3345764771, 3516065817, 3600352804, 4094571909, 275423344, 430227734, 506948616, 659060556, 883997877, 958139571, 1322822218, 1537002063, 1747873779, 1955562222, 2024104815, 2227730452, 2361852424, 2428436474, 2756734187, 3204031479, 3329325298]
/-- The first state. -/
def hWords : List (BitVec 32) := [1779033703, 3144134277, 1013904242, 2773480762, 1359893119, 2600822924, 528734635, 1541459225]

/-- Eight words. -/
structure S8 where
  (a b c d e f g h : BitVec 32)
def S8.list (s : S8) : List (BitVec 32) := [s.a, s.b, s.c, s.d, s.e, s.f, s.g, s.h]
def S8.cells (s : S8) : Array Value := wc s.list
def pOne (k w : BitVec 32) (s : S8) : BitVec 32 := addw (addw (addw (addw s.h (pBigOne s.e)) (pChoice s.e s.f s.g)) k) w
def pTwo (s : S8) : BitVec 32 := addw (pBigZero s.a) (pMajority s.a s.b s.c)
def pRound (k w : BitVec 32) (s : S8) : S8 := ⟨addw (pOne k w s) (pTwo s), s.a, s.b, s.c, addw s.d (pOne k w s), s.e, s.f, s.g⟩
def pRounds (ws : List (BitVec 32)) (s : S8) : Nat → S8
  | 0 => s
  | k + 1 => pRound (kWords.getD k 0) (ws.getD k 0) (pRounds ws s k)
def S8.add (s t : S8) : S8 := ⟨addw s.a t.a, addw s.b t.b, addw s.c t.c, addw s.d t.d, addw s.e t.e, addw s.f t.f, addw s.g t.g, addw s.h t.h⟩
/-- The words behind a block of 64 bytes; of another length as they are. -/
def pBlock (s : S8) (l : List UInt8) : S8 := if l.length = 64 then s.add (pRounds (sched l) s 64) else s
theorem S8.list_length (s : S8) : s.list.length = 8 := rfl
theorem S8.ext' {s t : S8} (h : s.list = t.list) : s = t := by
  cases s; cases t; simp_all [S8.list]
theorem S8.add_list (s t : S8) : (s.add t).list = List.zipWith addw s.list t.list := rfl
/-- Words of which the first k have been added to. -/
def addTo (x y : List (BitVec 32)) (k : Nat) : List (BitVec 32) := (List.zipWith addw x y).take k ++ x.drop k
theorem addTo_zero (x y : List (BitVec 32)) : addTo x y 0 = x := by simp [addTo]
theorem addTo_all (x y : List (BitVec 32)) (k : Nat) (h : k = x.length) (h' : y.length = x.length) : addTo x y k = List.zipWith addw x y := by
  subst h; simp [addTo]; exact List.take_of_length_le (by simp [h'])
theorem addTo_length (x y : List (BitVec 32)) (k : Nat) (h : k ≤ x.length) (h' : y.length = x.length) : (addTo x y k).length = x.length := by
  simp [addTo, h']; omega
theorem addTo_get (x y : List (BitVec 32)) (k : Nat) (h : k < x.length) (h' : y.length = x.length) : (addTo x y k).getD k 0 = x.getD k 0 := by
  have hl : ((List.zipWith addw x y).take k).length = k := by simp [h']; omega
  rw [addTo, List.getD_eq_getElem?_getD, List.getElem?_append_right (by omega), hl, List.getElem?_drop, List.getD_eq_getElem?_getD]
  simp
theorem addTo_set (x y : List (BitVec 32)) (k : Nat) (h : k < x.length) (h' : y.length = x.length) :
    (wc (addTo x y k)).setIfInBounds k (.int .u32 ((addw (x.getD k 0) (y.getD k 0)).toNat : Int)) = wc (addTo x y (k + 1)) := by
  have hl : ((List.zipWith addw x y).take k).length = k := by simp [h']; omega
  have hd : x.drop k = x.getD k 0 :: x.drop (k + 1) := by
    rw [List.drop_eq_getElem_cons h, List.getD_eq_getElem?_getD]; simp [h]
  have ht : (List.zipWith addw x y).take (k + 1) = (List.zipWith addw x y).take k ++ [addw (x.getD k 0) (y.getD k 0)] := by
    rw [List.take_succ_eq_append_getElem (by simp [h']; omega)]
    simp [h, show k < y.length by omega]
  unfold addTo
  rw [hd, wc_set _ _ _ _ _ hl.symm, ht]

end Go.Proofs.YtccecnohgakllaaDoor
