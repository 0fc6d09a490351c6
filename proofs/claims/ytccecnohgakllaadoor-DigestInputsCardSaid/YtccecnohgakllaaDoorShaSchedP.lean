/-
  THE WORDS THAT A BLOCK IS DRAWN OUT TO, AS LISTS. Plain definitions and lemmas. No program is named here.
-/
import Derived.Test.YtccecnohgakllaaDoorWordPure
import Derived.Test.YtccecnohgakllaaDoorStrP
import Derived.Test.YtccecnohgakllaaDoorShaBits
import Derived.Laws.Rows
namespace Go.Proofs.YtccecnohgakllaaDoor
open Go.RowKit

/-- Four bytes as a word, the highest first. -/
def word (a b c d : UInt8) : BitVec 32 := BitVec.ofNat 32 (a.toNat * 16777216 + b.toNat * 65536 + c.toNat * 256 + d.toNat)
/-- The word at a place of a text. -/
def wAt (l : List UInt8) (k : Nat) : BitVec 32 := word (l.getD k 0) (l.getD (k + 1) 0) (l.getD (k + 2) 0) (l.getD (k + 3) 0)
def sched16 (l : List UInt8) (n : Nat) : List (BitVec 32) := (List.range n).map fun i => wAt l (4 * i)
def schedNext (ws : List (BitVec 32)) : BitVec 32 := addw (addw (addw (pSmallOne (ws.getD (ws.length - 2) 0)) (ws.getD (ws.length - 7) 0)) (pSmallZero (ws.getD (ws.length - 15) 0))) (ws.getD (ws.length - 16) 0)
def schedN (l : List UInt8) : Nat → List (BitVec 32)
  | 0 => sched16 l 16
  | k + 1 => schedN l k ++ [schedNext (schedN l k)]
def sched (l : List UInt8) : List (BitVec 32) := schedN l 48

theorem sched16_length (l : List UInt8) (n : Nat) : (sched16 l n).length = n := by simp [sched16]
theorem schedN_length (l : List UInt8) (k : Nat) : (schedN l k).length = 16 + k := by
  induction k with
  | zero => simp [schedN, sched16]
  | succ k ih => simp [schedN, ih]; omega
theorem sched_length (l : List UInt8) : (sched l).length = 64 := schedN_length l 48
theorem sched16_succ (l : List UInt8) (n : Nat) : sched16 l (n + 1) = sched16 l n ++ [wAt l (4 * n)] := by simp [sched16, List.range_succ]

/-- Words as cells of memory. -/
def wc (ws : List (BitVec 32)) : Array Value := (ws.map fun x => Value.int .u32 (x.toNat : Int)).toArray
@[simp] theorem wc_size (ws : List (BitVec 32)) : (wc ws).size = ws.length := by simp [wc]
theorem wc_at (ws : List (BitVec 32)) (j : Nat) (h : j < ws.length) : (wc ws)[j]? = some (.int .u32 ((ws.getD j 0).toNat : Int)) := by
  simp [wc, h]
theorem wc_set (ws zs : List (BitVec 32)) (z x : BitVec 32) (i : Nat) (hi : i = ws.length) : (wc (ws ++ z :: zs)).setIfInBounds i (.int .u32 (x.toNat : Int)) = wc (ws ++ [x] ++ zs) := by
  subst hi
  simp only [wc, List.map_append, List.map_cons, List.setIfInBounds_toArray, List.append_assoc, List.cons_append, List.nil_append]
  congr 1
  rw [List.set_append_right _ _ (by simp)]
  simp
theorem wc_oneCell (ws : List (BitVec 32)) : (wc ws).all (·.oneCell') = true := by
  simp [wc, Value.oneCell']

theorem word_lt (a b c d : UInt8) : a.toNat * 16777216 + b.toNat * 65536 + c.toNat * 256 + d.toNat < 4294967296 := by
  have := a.toNat_lt; have := b.toNat_lt; have := c.toNat_lt; have := d.toNat_lt; omega
theorem word_toNat (a b c d : UInt8) : (word a b c d).toNat = a.toNat * 16777216 + b.toNat * 65536 + c.toNat * 256 + d.toNat := by
  have := word_lt a b c d
  simp only [word, BitVec.toNat_ofNat]; omega
/-- The word as the code's shifts and ors lay it. -/
theorem word_or (a b c d : UInt8) : bits BinOp.or IntKind.u32 (bits BinOp.or IntKind.u32 (bits BinOp.or IntKind.u32 ((a.toNat : Int) % 4294967296 * 16777216 % 4294967296) ((b.toNat : Int) % 4294967296 * 65536 % 4294967296)) ((c.toNat : Int) % 4294967296 * 256 % 4294967296)) ((d.toNat : Int) % 4294967296) = ((word a b c d).toNat : Int) := by
  have ha := a.toNat_lt; have hb := b.toNat_lt; have hc := c.toNat_lt; have hd := d.toNat_lt
  have e1 : (a.toNat : Int) % 4294967296 * 16777216 % 4294967296 = ((a.toNat * 16777216 : Nat) : Int) := by omega
  have e2 : (b.toNat : Int) % 4294967296 * 65536 % 4294967296 = ((b.toNat * 65536 : Nat) : Int) := by omega
  have e3 : (c.toNat : Int) % 4294967296 * 256 % 4294967296 = ((c.toNat * 256 : Nat) : Int) := by omega
  have e4 : (d.toNat : Int) % 4294967296 = ((d.toNat : Nat) : Int) := by omega
  have j1 : a.toNat * 16777216 ||| b.toNat * 65536 = a.toNat * 16777216 + b.toNat * 65536 := nat_join 24 _ _ (by omega) (by omega)
  have j2 : a.toNat * 16777216 + b.toNat * 65536 ||| c.toNat * 256 = a.toNat * 16777216 + b.toNat * 65536 + c.toNat * 256 := nat_join 16 _ _ (by omega) (by omega)
  have j3 : a.toNat * 16777216 + b.toNat * 65536 + c.toNat * 256 ||| d.toNat = a.toNat * 16777216 + b.toNat * 65536 + c.toNat * 256 + d.toNat := nat_join 8 _ _ (by omega) (by omega)
  rw [e1, e2, e3, e4, u32_or_nat _ _ (by omega) (by omega), j1, u32_or_nat _ _ (by omega) (by omega), j2, u32_or_nat _ _ (by omega) (by omega), j3, word_toNat]

end Go.Proofs.YtccecnohgakllaaDoor
