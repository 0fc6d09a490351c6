/-
  WORDS OF 32 BITS AS BitVec 32, IN THE WALK'S SPELLING. Plain lemmas: what the walk writes for Go's operators on uint32 (over Int), said of BitVec's own operations. No program is named here.
-/
/-
  A Go STRING AS A LIST OF BYTES. Plain definitions and lemmas.
-/
/-
  SMALL LAWS OF OUR OWN, OVER WHATEVER PROGRAM: an element of an array by value; a copy into a row that is known whole, the world behind it a letter.
-/
/-
  BYTES AS CELLS OF MEMORY. Plain definitions and lemmas; a new row of noughts.
-/
/-
  BYTES IN MEMORY FROM A PLACE ON; '[]byte(s)' UNDER A NAME OF ITS OWN: the world behind it, its capacity, and what is known of them.
-/
/-
  BYTES STORED INTO THE MIDDLE OF A BLOCK OF BYTES; a part of an array's value.
-/
/-
  AN UPDATE AND A STOP AS ROWS; A PART OF A ROW STORED.
-/
/-
  WHAT wire's number, Byte, Word, Long, Text RETURN: a number in so many bytes, the highest first.
-/
/-
  WHAT wire's Byte, Word, Long, Text RETURN.
-/
/-
  WHAT wire's Digest RETURNS.
-/
/-
  WHAT A READER's SMALL CALLS DO: Left, Fail, failed, End, take; a reader as a cell of memory; what else lies there stays.
-/
/-
  WHAT A READER's number, Byte, Word, Long ANSWER.
-/
/-
  'copy(b, s)' OF A TEXT INTO A ROW OF BYTES: as much as there is room for. As one step of a region that draws its order. Over whatever program.
-/
/-
  WHAT A READER's Digest, Digests, Sig ANSWER.
-/
/-
  A NEW LIST OF DIGESTS, ALL NOUGHTS.
-/
/-
  WHAT A READER's Digests ANSWERS: the digests' bytes in a new row.
-/
import Derived.WalkKit
import Derived.Lib.Strings
import Derived.WalkSmall
import Derived.Laws.CopyOwn
import Derived.ChangeKeysEq
import Derived.Test.YtocibklkpnblgaaGreatDoorProg
import Derived.Laws.MakeOwn
import Derived.Lib.UnsafeStr
import Derived.Laws.IdiomStrings
import Derived.Deep.MidRow
import Derived.Laws.CopyRow
import Derived.Lib.BufferWrite
import Derived.Deep.RegionLaw
import Derived.Deep.RegionHeld3
import Derived.Deep.DeepCutAuto
import Derived.StillTailTactics
namespace Go.Proofs.YtocibklkpnblgaaGreatDoor
open Go.RowKit

theorem hide {p : Prop} (h : p) : Hid p := h
theorem unhide {p : Prop} (h : Hid p) : p := h
theorem wi64 (a : Int) (h : -9223372036854775808 ≤ a) (h' : a ≤ 9223372036854775807) : IntKind.i64.wrap a = a := by
  rw [IntKind.wrap_i64]; omega
theorem wu64 (a : Int) (h : 0 ≤ a) (h' : a ≤ 18446744073709551615) : IntKind.u64.wrap a = a := by
  rw [IntKind.wrap_u64]; omega
theorem lt32 (x : BitVec 32) : x.toNat < 4294967296 := x.isLt
theorem b_and (x y : BitVec 32) : bits .and .u32 (x.toNat : Int) (y.toNat : Int) = ((x &&& y).toNat : Int) := by
  rw [u32_and_nat _ _ (lt32 x) (lt32 y)]; simp
theorem b_or (x y : BitVec 32) : bits .or .u32 (x.toNat : Int) (y.toNat : Int) = ((x ||| y).toNat : Int) := by
  rw [u32_or_nat _ _ (lt32 x) (lt32 y)]; simp
theorem b_xor (x y : BitVec 32) : bits .xor .u32 (x.toNat : Int) (y.toNat : Int) = ((x ^^^ y).toNat : Int) := by
  rw [u32_xor_nat _ _ (lt32 x) (lt32 y)]; simp
theorem b_max : IntKind.u32.max = ((BitVec.allOnes 32).toNat : Int) := by decide
theorem b_not (x : BitVec 32) : bits .xor .u32 IntKind.u32.max (x.toNat : Int) = ((~~~x).toNat : Int) := by
  rw [b_max, b_xor]; congr 2
theorem b_add (x y : BitVec 32) : ((x.toNat : Int) + (y.toNat : Int)) % 4294967296 = ((x + y).toNat : Int) := by
  rw [BitVec.toNat_add]; omega
theorem b_wadd (x y : BitVec 32) : IntKind.u32.wrap ((x.toNat : Int) + (y.toNat : Int)) = ((x + y).toNat : Int) := by
  rw [IntKind.wrap_u32', b_add]
/-- A sum of words, under a name of its own: simp does not open it. -/
def addw (x y : BitVec 32) : BitVec 32 := x + y
theorem a_mod (x y : BitVec 32) : ((x.toNat : Int) + (y.toNat : Int)) % 4294967296 = ((addw x y).toNat : Int) := b_add x y
theorem a_wrap (x y : BitVec 32) : IntKind.u32.wrap ((x.toNat : Int) + (y.toNat : Int)) = ((addw x y).toNat : Int) := b_wadd x y
theorem b_shl (x : BitVec 32) (s : Nat) : ((x.toNat : Int) * 2 ^ s) % 4294967296 = ((x <<< s).toNat : Int) := by
  rw [BitVec.toNat_shiftLeft, Nat.shiftLeft_eq]
  have e : (x.toNat : Int) * 2 ^ s = ((x.toNat * 2 ^ s : Nat) : Int) := by simp
  rw [e]; generalize x.toNat * 2 ^ s = m; omega
theorem b_shr (x : BitVec 32) (s : Nat) : (x.toNat : Int) / 2 ^ s = ((x >>> s).toNat : Int) := by
  rw [BitVec.toNat_ushiftRight, Nat.shiftRight_eq_div_pow]; push_cast; rfl
/-- The number that Go's rotation takes of a negative count. -/
theorem b_turns : ∀ n : Nat, n < 32 → 0 < n → bits BinOp.and IntKind.u64 (IntKind.u64.wrap (-(n : Int))) 31 = ((32 - n : Nat) : Int) := by decide +kernel

end Go.Proofs.YtocibklkpnblgaaGreatDoor

namespace Go.Proofs.YtocibklkpnblgaaGreatDoor
open Go.RowKit
set_option linter.unusedSimpArgs false

/-- A text's bytes as a Go string. -/
def str (l : List UInt8) : ByteArray := ⟨l.toArray⟩
theorem str_list (s : ByteArray) : str s.data.toList = s := by simp [str]
@[simp] theorem str_toList (l : List UInt8) : (str l).data.toList = l := by simp [str]
@[simp] theorem str_size (l : List UInt8) : (str l).size = l.length := by simp [str, ByteArray.size]
theorem size_list (s : ByteArray) : s.data.toList.length = s.size := by rw [Array.length_toList]; rfl
theorem str_inj {l m : List UInt8} (h : str l = str m) : l = m := by
  have := congrArg (fun s : ByteArray => s.data.toList) h
  simpa using this

theorem take_str (l : List UInt8) (n : Nat) : (str l).extract 0 n = str (l.take n) := by
  apply ByteArray.ext; simp [str]
theorem drop_str (l : List UInt8) (n m : Nat) (h : m = l.length) : (str l).extract n m = str (l.drop n) := by
  subst h; apply ByteArray.ext; simp [str]; exact List.take_of_length_le (by simp)
theorem append_str (l m : List UInt8) : str l ++ str m = str (l ++ m) := by
  apply ByteArray.ext; simp [str]

theorem byte_at (s : ByteArray) (k : Nat) (h : k < s.size) : s[k] = s.data.toList.getD k 0 := by
  have h' : k < s.data.size := h
  have e : s.data.toList[k]? = some s.data[k] := by simp
  rw [List.getD_eq_getElem?_getD, e]; rfl

end Go.Proofs.YtocibklkpnblgaaGreatDoor

namespace Go.Proofs.YtocibklkpnblgaaGreatDoor
open Go Go.RowKit

/-- 'a[i]' of an array by value whose elements take one cell. -/
theorem run_index_row {P : Program} (t e : TypeId) (n : Nat) (cs : Array Value) (k : Nat) (v : Value) (hu : P.underlying t = some (.array n e)) (he : P.plainKey e = true) (hs : (P.info? e).map (·.size) = some 1)
    (hk : k < n) (hv : cs[k]? = some v) (w : World) : (Instr.index t (.agg cs) (.int .i64 (k : Int))).run P w = .ok v w := by
  cases hq : P.info? e with
  | none => simp [hq] at hs
  | some i =>
    have hi : i.size = 1 := by simpa [hq] using hs
    have hp := run_part_plain (w := w) he (xs := cs) (off := k) hv
    simp [Instr.index, asIntOf, run_underlying hu, hk, sizeOf, typeInfo, hq, hi, hp]

/-- A copy into a row known whole: the world behind it is a letter of which all is known. -/
theorem wpList_copy_abs {P : Program} {w : World} {ops : Array Oper} {rest : List Oper} {o : Oper} {a : Act} {Q : Exit → Act → World → Prop} (hgd : o.guard = none) (d s : Operand) (dT sT : TypeId)
    (ho : o.op = .call { callee := .builtin .copy, args := #[d, s], argTypes := #[dT, sT] }) (elem : TypeId) (hu : P.underlying dT = some (.slice elem)) (hsz : (P.info? elem).map (·.size) = some 1)
    (g off dLen dCap : Nat) (ad : Addr) (sLen sCap : Nat) (hd : a.eval d = .slice (some ⟨g, off, none⟩) dLen dCap) (hs : a.eval s = .slice (some ad) sLen sCap)
    (cur : Array Value) (t : TypeId) (hg : w.heap[g]? = some (.cells cur t (0, 0))) (cs : List Value) (hn : cs.length = Nat.min sLen dLen)
    (hsrc : ∀ j v, cs[j]? = some v → w.cell? (ad.add j) = some v) (hfit : off + cs.length ≤ cur.size) (h1 : ∀ v ∈ cs, v.oneCell' = true)
    (new : Array Value) (hnew : (cur.toList.take off ++ (cs ++ cur.toList.drop (off + cs.length))).toArray = new)
    (h : ∀ w', w'.heap[g]? = some (.cells new t (0, 0)) → (∀ k, k ≠ g → w'.heap[k]? = w.heap[k]?) → w'.heap.size = w.heap.size → Below g w w' → wpList P ops Q rest (a.put o.dst (goInt cs.length)) w') :
    wpList P ops Q (o :: rest) a w := by
  refine wpList_copy_own hgd d s dT sT ho elem hu hsz g off dLen dCap ad sLen sCap hd hs cur t hg cs hn hsrc hfit h1 ?_
  rw [hnew]
  exact h _ (setRow_heap w g _ _ t _ hg) (fun k hk => setRow_other w g k _ hk) (setRow_size w g _) (below_setRow (Below.refl _ _) (Nat.le_refl _) _)

theorem src_of_row (w : World) (g : Nat) (t : TypeId) (fr : Nat × Nat) (cur : Array Value) (hg : w.heap[g]? = some (.cells cur t fr)) (cs : List Value) (hp : cs <+: cur.toList) (j : Nat) (v : Value) (hv : cs[j]? = some v) :
    w.cell? ((⟨g, 0, none⟩ : Addr).add j) = some v := by
  have hadd : (⟨g, 0, none⟩ : Addr).add j = ⟨g, j, none⟩ := by unfold Addr.add; split <;> simp_all
  rw [hadd, cell_of_row w g j cur t fr hg]
  obtain ⟨r, hr⟩ := hp
  have : cur.toList[j]? = some v := by
    rw [← hr, List.getElem?_append_left (List.getElem?_eq_some_iff.1 hv).1]; exact hv
  simpa using this
theorem al1 (w : World) (A : Obj) : (w.alloc A).heap[w.heap.size]? = some A := by show (w.heap.push A)[w.heap.size]? = _; simp
theorem al2 (w : World) (A B : Obj) : ((w.alloc A).alloc B).heap[w.heap.size]? = some A ∧ ((w.alloc A).alloc B).heap[w.heap.size + 1]? = some B := by
  refine ⟨?_, ?_⟩
  · rw [Below.heap_alloc _ _ _ (by simp), al1]
  · have := al1 (w.alloc A) B; rwa [World.size_alloc] at this
theorem al3 (w : World) (A B C : Obj) : (((w.alloc A).alloc B).alloc C).heap[w.heap.size]? = some A ∧ (((w.alloc A).alloc B).alloc C).heap[w.heap.size + 1]? = some B ∧ (((w.alloc A).alloc B).alloc C).heap[w.heap.size + 1 + 1]? = some C := by
  refine ⟨?_, ?_, ?_⟩
  · rw [Below.heap_alloc _ _ _ (by simp; omega), (al2 w A B).1]
  · rw [Below.heap_alloc _ _ _ (by simp), (al2 w A B).2]
  · have := al1 ((w.alloc A).alloc B) C; rwa [World.size_alloc, World.size_alloc] at this
theorem bel2 (w : World) (A B : Obj) : Below w.heap.size w ((w.alloc A).alloc B) := ((Below.refl _ _).alloc (Nat.le_refl _) _).alloc (by simp) _
theorem bel3 (w : World) (A B C : Obj) : Below w.heap.size w (((w.alloc A).alloc B).alloc C) := (bel2 w A B).alloc (by simp; omega) _
/-- Behind a call that kept all blocks: what lay there lies there. -/
theorem Below.at {B : Nat} {w w' : World} (h : Below B w w') {k : Nat} {o : Option Obj} (hk : k < B) (ho : w.heap[k]? = o) : w'.heap[k]? = o := (h.block k hk).trans ho

theorem bcell {W w1 : World} (hb : Below W.heap.size W w1) : (∀ b o, b < W.heap.size → w1.cell? ⟨b, o, none⟩ = W.cell? ⟨b, o, none⟩) ∧ (∀ b o, b < W.heap.size → w1.frozen? ⟨b, o, none⟩ = W.frozen? ⟨b, o, none⟩) :=
  ⟨fun b o h => hb.cell (p := ⟨b, o, none⟩) h, fun b o h => hb.frozen (p := ⟨b, o, none⟩) h⟩
/-- A block that was laid ahead of a call, behind it. -/
theorem alloc_kept {w w' : World} {c : Array Value} {t : TypeId} (hb : Below (w.alloc (.cells c t)).heap.size (w.alloc (.cells c t)) w') :
    (∀ o, w'.cell? ⟨w.heap.size, o, none⟩ = c[o]?) ∧ (∀ o, w'.frozen? ⟨w.heap.size, o, none⟩ = false) ∧ w.heap.size < w'.heap.size ∧ Hid (w'.heap[w.heap.size]? = some (.cells c t (0, 0))) := by
  have hz := hb.size
  rw [World.size_alloc] at hz
  refine ⟨fun o => ?_, fun o => ?_, by omega, (hb.block _ (by simp)).trans (al1 _ _)⟩
  · rw [hb.cell (p := ⟨w.heap.size, o, none⟩) (by simp)]; simp
  · rw [hb.frozen (p := ⟨w.heap.size, o, none⟩) (by simp)]; simp
theorem alloc_kept_drew {w w' : World} {c : Array Value} {t : TypeId} (hb : Below (w.alloc (.cells c t)).drew.heap.size (w.alloc (.cells c t)).drew w') :
    (∀ o, w'.cell? ⟨w.heap.size, o, none⟩ = c[o]?) ∧ (∀ o, w'.frozen? ⟨w.heap.size, o, none⟩ = false) ∧ w.heap.size < w'.heap.size ∧ Hid (w'.heap[w.heap.size]? = some (.cells c t (0, 0))) :=
  alloc_kept (t := t) ⟨hb.os, hb.tape, hb.output, hb.size, hb.block⟩
theorem set8 (w : World) (g : Nat) (t : TypeId) (z0 z1 z2 z3 z4 z5 z6 z7 v0 v1 v2 v3 v4 v5 v6 v7 : Value) (hg : w.heap[g]? = some (.cells #[z0, z1, z2, z3, z4, z5, z6, z7] t (0, 0))) : ((((((((w.setCell ⟨g, 0, none⟩ v0).setCell ⟨g, 1, none⟩ v1).setCell ⟨g, 2, none⟩ v2).setCell ⟨g, 3, none⟩ v3).setCell ⟨g, 4, none⟩ v4).setCell ⟨g, 5, none⟩ v5).setCell ⟨g, 6, none⟩ v6).setCell ⟨g, 7, none⟩ v7).heap[g]? = some (.cells #[v0, v1, v2, v3, v4, v5, v6, v7] t (0, 0)) := by
  have h0 : (w.setCell ⟨g, 0, none⟩ v0).heap[g]? = some (.cells #[v0, z1, z2, z3, z4, z5, z6, z7] t (0, 0)) := heap_setCell_same _ g 0 _ t v0 hg
  have h1 : ((w.setCell ⟨g, 0, none⟩ v0).setCell ⟨g, 1, none⟩ v1).heap[g]? = some (.cells #[v0, v1, z2, z3, z4, z5, z6, z7] t (0, 0)) := heap_setCell_same _ g 1 _ t v1 h0
  have h2 : (((w.setCell ⟨g, 0, none⟩ v0).setCell ⟨g, 1, none⟩ v1).setCell ⟨g, 2, none⟩ v2).heap[g]? = some (.cells #[v0, v1, v2, z3, z4, z5, z6, z7] t (0, 0)) := heap_setCell_same _ g 2 _ t v2 h1
  have h3 : ((((w.setCell ⟨g, 0, none⟩ v0).setCell ⟨g, 1, none⟩ v1).setCell ⟨g, 2, none⟩ v2).setCell ⟨g, 3, none⟩ v3).heap[g]? = some (.cells #[v0, v1, v2, v3, z4, z5, z6, z7] t (0, 0)) := heap_setCell_same _ g 3 _ t v3 h2
  have h4 : (((((w.setCell ⟨g, 0, none⟩ v0).setCell ⟨g, 1, none⟩ v1).setCell ⟨g, 2, none⟩ v2).setCell ⟨g, 3, none⟩ v3).setCell ⟨g, 4, none⟩ v4).heap[g]? = some (.cells #[v0, v1, v2, v3, v4, z5, z6, z7] t (0, 0)) := heap_setCell_same _ g 4 _ t v4 h3
  have h5 : ((((((w.setCell ⟨g, 0, none⟩ v0).setCell ⟨g, 1, none⟩ v1).setCell ⟨g, 2, none⟩ v2).setCell ⟨g, 3, none⟩ v3).setCell ⟨g, 4, none⟩ v4).setCell ⟨g, 5, none⟩ v5).heap[g]? = some (.cells #[v0, v1, v2, v3, v4, v5, z6, z7] t (0, 0)) := heap_setCell_same _ g 5 _ t v5 h4
  have h6 : (((((((w.setCell ⟨g, 0, none⟩ v0).setCell ⟨g, 1, none⟩ v1).setCell ⟨g, 2, none⟩ v2).setCell ⟨g, 3, none⟩ v3).setCell ⟨g, 4, none⟩ v4).setCell ⟨g, 5, none⟩ v5).setCell ⟨g, 6, none⟩ v6).heap[g]? = some (.cells #[v0, v1, v2, v3, v4, v5, v6, z7] t (0, 0)) := heap_setCell_same _ g 6 _ t v6 h5
  have h7 : ((((((((w.setCell ⟨g, 0, none⟩ v0).setCell ⟨g, 1, none⟩ v1).setCell ⟨g, 2, none⟩ v2).setCell ⟨g, 3, none⟩ v3).setCell ⟨g, 4, none⟩ v4).setCell ⟨g, 5, none⟩ v5).setCell ⟨g, 6, none⟩ v6).setCell ⟨g, 7, none⟩ v7).heap[g]? = some (.cells #[v0, v1, v2, v3, v4, v5, v6, v7] t (0, 0)) := heap_setCell_same _ g 7 _ t v7 h6
  exact h7
/-- A row of memory and a slot as the two results. -/
theorem results_row_tmp {P : Program} {fn : Func} {p u : Tmp} {ty : TypeId} (h : fn.results = #[.cell p ty, .tmp u]) (tmps : Array Value) (w : World) (g : Nat) (t : TypeId) (cs : Array Value) (fr : Nat × Nat) (d : TypeDesc)
    (hp : tmps.getD p undef = .pointer (some ⟨g, 0, none⟩)) (hg : w.heap[g]? = some (.cells cs t fr))
    (hu : P.underlying ty = some d) (hd : (match d with | .struct _ | .array _ _ => true | _ => false) = true) (hi : (P.info? ty).map (·.size) = some cs.size) :
    (results fn tmps).run P w = .ok (.tuple #[.agg cs, tmps.getD u undef]) w := by
  rw [results_cell_tmp h, hp]
  simp only [asAddr, Sem.run_pure, Result.andThen_ok, run_loadVar_row w g t ty cs fr d hg hu hd hi]

end Go.Proofs.YtocibklkpnblgaaGreatDoor

namespace Go.Proofs.YtocibklkpnblgaaGreatDoor
open Go.RowKit
set_option linter.unusedSimpArgs false

theorem mixed : Tryz.prog.follows .mixedOrders = true := by kernel_rfl
/-- Bytes as cells. -/
def bc (l : List UInt8) : Array Value := (Lib.byteCells l).toArray
@[simp] theorem bc_size (l : List UInt8) : (bc l).size = l.length := by simp [bc, Lib.byteCells]
theorem bc_at (l : List UInt8) (j : Nat) (h : j < l.length) : (bc l)[j]? = some (.int .u8 ((l.getD j 0).toNat : Int)) := by
  simp [bc, Lib.byteCells, h]
theorem bc_set (l m : List UInt8) (z x : UInt8) (i : Nat) (hi : i = l.length) : (bc (l ++ z :: m)).setIfInBounds i (.int .u8 (x.toNat : Int)) = bc (l ++ [x] ++ m) := by
  subst hi
  simp only [bc, Lib.byteCells, List.map_append, List.map_cons, List.setIfInBounds_toArray, List.append_assoc, List.cons_append, List.nil_append]
  congr 1
  rw [List.set_append_right _ _ (by simp)]
  simp
theorem bc_oneCell (l : List UInt8) : (bc l).all (·.oneCell') = true := by
  simp [bc, Lib.byteCells, Value.oneCell']
theorem made_bytes (n : Nat) : madeCells #[Value.int .u8 0] n = bc (List.replicate n 0) := by
  apply Array.ext
  · simp [size_madeCells]
  · intro i h1 h2
    simp [madeCells, bc, Lib.byteCells]
    rw [Nat.mod_one]; rfl

theorem byte_mod (m s : Nat) : (m : Int) / 2 ^ s % 256 = ((UInt8.ofNat (m / 2 ^ s)).toNat : Int) := by
  have e : (m : Int) / 2 ^ s = ((m / 2 ^ s : Nat) : Int) := by rw [Int.natCast_ediv, Int.natCast_pow]; rfl
  rw [e, UInt8.toNat_ofNat']
  generalize m / 2 ^ s = q
  show (q : Int) % 256 = ((q % 256 : Nat) : Int)
  omega
theorem take_snoc' {α : Type} (l : List α) (k : Nat) (d : α) (h : k < l.length) : l.take (k + 1) = l.take k ++ [l.getD k d] := by
  rw [List.take_succ_eq_append_getElem h]; simp [h]

theorem make_bytes (n : Nat) (h : n ≤ 140737488355328) (w : World) : (Instr.makeSlice 82 (.int .i64 (n : Int)) (.int .i64 (n : Int))).run Tryz.prog w = .ok (.slice (some ⟨w.heap.size, 0, none⟩) n n) (w.alloc (.cells (bc (List.replicate n 0)) 5)) := by
  obtain ⟨i, hi⟩ : ∃ i, Tryz.prog.info? 5 = some i := by
    cases hq : Tryz.prog.info? 5 with
    | none => exact absurd hq (by rw [show Tryz.prog.info? 5 = some ((Tryz.prog.info? 5).getD default) by kernel_rfl]; simp)
    | some i => exact ⟨i, rfl⟩
  have e : (Tryz.prog.info? 5).map (fun i => (i.zero, i.size, i.bytes)) = some (some (.int .u8 0), 1, 1) := by kernel_rfl
  rw [hi] at e
  simp only [Option.map_some, Option.some.injEq, Prod.mk.injEq] at e
  obtain ⟨e1, e2, e3⟩ := e
  have := run_make (P := Tryz.prog) w 82 5 i (.int .u8 0) Tryz.underlying82 hi e1 .i64 .i64 n n (by omega) (by omega) (by rw [e3]; omega) (by omega)
  rw [this, e2]
  simp only [Int.toNat_natCast, Nat.mul_one]
  rw [show (Value.int IntKind.u8 0).cells = #[Value.int .u8 0] from rfl, made_bytes]

end Go.Proofs.YtocibklkpnblgaaGreatDoor

namespace Go.Proofs.YtocibklkpnblgaaGreatDoor
open Go.RowKit
set_option linter.unusedSimpArgs false
set_option linter.unusedVariables false

/-- Bytes lie in memory from a place on. -/
def Bytes (w : World) (g off : Nat) (l : List UInt8) : Prop := ∀ j, j < l.length → w.cell? ⟨g, off + j, none⟩ = some (.int .u8 ((l.getD j 0).toNat : Int))
theorem Bytes.below {B g off : Nat} {l : List UInt8} {w w' : World} (h : Bytes w g off l) (hb : Below B w w') (hg : g < B) : Bytes w' g off l := fun j hj => by
  rw [hb.cell (p := ⟨g, off + j, none⟩) hg]; exact h j hj

theorem Bytes.take {w : World} {g off : Nat} {l : List UInt8} (h : Bytes w g off l) (n : Nat) : Bytes w g off (l.take n) := fun j hj => by
  have hj' : j < n ∧ j < l.length := by simp at hj; omega
  rw [h j hj'.2]
  simp [hj'.1]
theorem Bytes.drop {w : World} {g off : Nat} {l : List UInt8} (h : Bytes w g off l) (n : Nat) : Bytes w g (off + n) (l.drop n) := fun j hj => by
  have hj' : n + j < l.length := by simp at hj; omega
  rw [show off + n + j = off + (n + j) by omega, h _ hj']
  simp
def bcap (w : World) (l : List UInt8) : Nat := grownCap w l.length 0 5
def bworld (w : World) (l : List UInt8) : World := w.drew.alloc (.cells (bytesRow (str l) (bcap w l)) 5 ((bytesRow (str l) (bcap w l)).size, (bytesRow (str l) (bcap w l)).size + 1))
theorem conv_run (l : List UInt8) (w : World) : (convert 9 82 (.string (str l))).run Tryz.prog w = .ok (.slice (some ⟨w.heap.size, 0, none⟩) l.length (bcap w l)) (bworld w l) := by
  have := run_bytes_of_string (P := Tryz.prog) w 9 82 5 (str l) Tryz.underlying9 Tryz.underlying82 Tryz.underlying5
  rw [str_size] at this
  exact this
theorem bworld_size (w : World) (l : List UInt8) : (bworld w l).heap.size = w.heap.size + 1 := by simp [bworld]
theorem bworld_below {B : Nat} {W w : World} (l : List UInt8) (h : Below B W w) (hB : B ≤ w.heap.size) : Below B W (bworld w l) := (h.drew).alloc hB _
theorem bworld_bytes (w : World) (l : List UInt8) : Bytes (bworld w l) w.heap.size 0 l := fun j hj => by
  have h : (bworld w l).heap[w.heap.size]? = some (.cells (bytesRow (str l) (bcap w l)) 5 ((bytesRow (str l) (bcap w l)).size, (bytesRow (str l) (bcap w l)).size + 1)) := al1 w.drew _
  rw [cell_of_row _ _ _ _ _ _ h, Nat.zero_add, bytesRow_at _ _ _ (by simpa [str] using hj)]
  simp [str, hj]
theorem bcap_ge (w : World) (l : List UInt8) : l.length ≤ bcap w l := grownCap_ge _ _ _ _
theorem bcap_le (w : World) (l : List UInt8) (h : l.length ≤ maxLen) : bcap w l ≤ maxLen := grownCap_le_maxLen _ _ _ _ h
theorem bworld_kept {w w' : World} {l : List UInt8} (hb : Below (bworld w l).heap.size (bworld w l) w') : Hid (Bytes w' w.heap.size 0 l) ∧ w.heap.size < w'.heap.size := by
  have hz := hb.size
  have h1 := bworld_size w l
  exact ⟨(bworld_bytes w l).below hb (by omega), by omega⟩
theorem bworld_kept_drew {w w' : World} {l : List UInt8} (hb : Below (bworld w l).drew.heap.size (bworld w l).drew w') : Hid (Bytes w' w.heap.size 0 l) ∧ w.heap.size < w'.heap.size :=
  bworld_kept (l := l) ⟨hb.os, hb.tape, hb.output, hb.size, hb.block⟩
end Go.Proofs.YtocibklkpnblgaaGreatDoor

namespace Go.Proofs.YtocibklkpnblgaaGreatDoor
open Go.RowKit
set_option linter.unusedSimpArgs false
set_option linter.unusedVariables false

/-- A list with another one written over it from a place on. -/
def putAt (L : List UInt8) (o : Nat) (D : List UInt8) : List UInt8 := L.take o ++ D ++ L.drop (o + D.length)
theorem putAt_length (L : List UInt8) (o : Nat) (D : List UInt8) (h : o + D.length ≤ L.length) : (putAt L o D).length = L.length := by
  unfold putAt; simp; omega
theorem putAt_zeros (A D : List UInt8) (n o : Nat) (ho : o = A.length) (h : D.length ≤ n) : putAt (A ++ List.replicate n 0) o D = A ++ D ++ List.replicate (n - D.length) 0 := by
  subst ho
  unfold putAt
  rw [List.take_left, ← List.drop_drop, List.drop_left, List.drop_replicate]
theorem setCells_heap (g : Nat) (t : TypeId) : ∀ (vs : List Value) (o : Nat) (C : Array Value) (w : World), w.heap[g]? = some (.cells C t (0, 0)) → o + vs.length ≤ C.size →
    (w.setCells g o vs).heap[g]? = some (.cells (C.toList.take o ++ vs ++ C.toList.drop (o + vs.length)).toArray t (0, 0)) ∧ (∀ k, k ≠ g → (w.setCells g o vs).heap[k]? = w.heap[k]?) ∧ (w.setCells g o vs).heap.size = w.heap.size ∧ (∀ B, B ≤ g → Below B w (w.setCells g o vs))
  | [], o, C, w, hg, h => by
    refine ⟨?_, fun _ _ => rfl, rfl, fun B _ => Below.refl B w⟩
    show w.heap[g]? = _
    rw [hg]
    simp
  | v :: vs, o, C, w, hg, h => by
    have h1 := heap_setCell_same w g o C t v hg
    have hsz : (C.setIfInBounds o v).size = C.size := by simp
    have hlt : o < C.size := by simp at h; omega
    obtain ⟨r1, r2, r3, r4⟩ := setCells_heap g t vs (o + 1) (C.setIfInBounds o v) (w.setCell ⟨g, o, none⟩ v) h1 (by rw [hsz]; simp at h; omega)
    have e : w.setCells g o (v :: vs) = (w.setCell ⟨g, o, none⟩ v).setCells g (o + 1) vs := rfl
    rw [e]
    refine ⟨?_, ?_, ?_, ?_⟩
    · rw [r1]
      congr 2
      have e1 : (C.setIfInBounds o v).toList = C.toList.set o v := by simp
      rw [e1]
      have e2 : C.toList.set o v = C.toList.take o ++ v :: C.toList.drop (o + 1) := List.set_eq_take_append_cons_drop.trans (by simp [hlt])
      rw [e2]
      have e3 : (C.toList.take o).length = o := by simp; omega
      rw [show o + 1 = (C.toList.take o ++ [v]).length by simp; omega, show C.toList.take o ++ v :: C.toList.drop (C.toList.take o ++ [v]).length = (C.toList.take o ++ [v]) ++ C.toList.drop (C.toList.take o ++ [v]).length by simp, List.take_left]
      rw [← List.drop_drop, List.drop_left, List.drop_drop]
      simp only [List.append_assoc, List.cons_append, List.nil_append, List.length_append, List.length_cons, List.length_nil, e3]
      rw [show o + (0 + 1) + vs.length = o + (vs.length + 1) by omega]
    · intro k hk
      rw [r2 k hk]
      exact Below.heap_setCell w ⟨g, o, none⟩ v k hk
    · rw [r3]; simp [World.setCell]
    · intro B hB
      exact ((Below.refl B w).setCell (p := ⟨g, o, none⟩) hB v).trans (r4 B hB)
theorem bc_put (L D : List UInt8) (o : Nat) : ((bc L).toList.take o ++ (bc D).toList ++ (bc L).toList.drop (o + (bc D).toList.length)).toArray = bc (putAt L o D) := by
  unfold bc putAt Lib.byteCells
  simp [List.map_take, List.map_drop]
theorem bc_there (w : World) (g o n : Nat) (L : List UInt8) (t : TypeId) (hg : w.heap[g]? = some (.cells (bc L) t (0, 0))) (h : o + n ≤ L.length) : w.there g o n := by
  intro j hj
  refine ⟨?_, frozen_of_row _ _ _ _ _ hg⟩
  rw [cell_of_row _ _ _ _ _ _ hg, bc_at _ _ (by omega)]; rfl
/-- A store of bytes into the middle of a block of bytes. -/
theorem wpList_store_at {P : Program} {ops : Array Oper} {rest : List Oper} {op : Oper} {a : Act} {w : World} {Q : Exit → Act → World → Prop} (hgd : op.guard = none) (ty : TypeId) (x y : Operand) (ho : op.op = .store ty x y)
    (g o : Nat) (L D : List UInt8) (t : TypeId) (hx : a.eval x = .pointer (some ⟨g, o, none⟩)) (hy : a.eval y = .agg (bc D)) (hg : w.heap[g]? = some (.cells (bc L) t (0, 0))) (hle : o + D.length ≤ L.length)
    (hi : (P.info? ty).map (·.size) = some (bc D).size)
    (h : ∀ w', w'.heap[g]? = some (.cells (bc (putAt L o D)) t (0, 0)) → (∀ k, k ≠ g → w'.heap[k]? = w.heap[k]?) → w'.heap.size = w.heap.size → (∀ B, B ≤ g → Below B w w') → wpList P ops Q rest (a.put op.dst undef) w') :
    wpList P ops Q (op :: rest) a w := by
  refine wpList_store_mid hgd ty x y ho g o (bc D) hx hy (bc_there w g o _ L t hg (by rw [bc_size]; exact hle)) hi (bc_oneCell D) ?_
  obtain ⟨r1, r2, r3, r4⟩ := setCells_heap g t (bc D).toList o (bc L) w hg (by rw [bc_size]; simpa using hle)
  rw [bc_put] at r1
  exact h _ r1 r2 r3 r4
/-- A part of a block of bytes, as a range. -/
theorem bc_range (w : World) (g o n : Nat) (L : List UInt8) (t : TypeId) (hg : w.heap[g]? = some (.cells (bc L) t (0, 0))) : w.rangeAt g o (Lib.byteCells ((L.drop o).take n)) := by
  have := World.rangeAt_of_block hg o n
  have e : ((bc L).extract o (o + n)).toList = Lib.byteCells ((L.drop o).take n) := by
    unfold bc Lib.byteCells
    simp [List.map_take, List.map_drop, List.extract_eq_take_drop]
  rw [e] at this
  exact this
end Go.Proofs.YtocibklkpnblgaaGreatDoor

namespace Go.Proofs.YtocibklkpnblgaaGreatDoor
open Go Go.RowKit
set_option linter.unusedSimpArgs false
set_option linter.unusedVariables false

/-- An update's cells. -/
def updc (home : Nat) (a b : List UInt8) (cs : Array Value) : Array Value := #[Value.int .u32 (home : Int)] ++ bc a ++ bc b ++ cs
theorem updc_size (home : Nat) (a b : List UInt8) (ha : a.length = 32) (hb : b.length = 32) (cs : Array Value) (hc : cs.size = 4) : (updc home a b cs).size = 69 := by simp [updc, bc_size, ha, hb, hc]
theorem updc_home (home : Nat) (a b : List UInt8) (cs : Array Value) : (updc home a b cs)[0]? = some (.int .u32 (home : Int)) := by simp [updc, Array.getElem?_append]
theorem updc_old (home : Nat) (a b : List UInt8) (ha : a.length = 32) (hb : b.length = 32) (cs : Array Value) (w : World) (g : Nat) (t : TypeId) (hg : w.heap[g]? = some (.cells (updc home a b cs) t (0, 0))) : w.rangeAt g 1 (Lib.byteCells a) := fun i u hu => by
  have hi : i < a.length := by have := (List.getElem?_eq_some_iff.1 hu).1; rwa [Lib.byteCells_length] at this
  rw [cell_of_row _ _ _ _ _ _ hg]
  unfold updc
  rw [Array.getElem?_append_left (by simp [bc_size, ha, hb]; omega), Array.getElem?_append_left (by simp [bc_size, ha]; omega), Array.getElem?_append_right (by simp)]
  rw [show 1 + i - (#[Value.int .u32 (home : Int)] : Array Value).size = i by simp]
  simpa [bc] using hu
theorem updc_new (home : Nat) (a b : List UInt8) (ha : a.length = 32) (hb : b.length = 32) (cs : Array Value) (w : World) (g : Nat) (t : TypeId) (hg : w.heap[g]? = some (.cells (updc home a b cs) t (0, 0))) : w.rangeAt g 33 (Lib.byteCells b) := fun i u hu => by
  have hi : i < b.length := by have := (List.getElem?_eq_some_iff.1 hu).1; rwa [Lib.byteCells_length] at this
  rw [cell_of_row _ _ _ _ _ _ hg]
  unfold updc
  rw [Array.getElem?_append_left (by simp [bc_size, ha, hb]; omega), Array.getElem?_append_right (by simp [bc_size, ha])]
  rw [show 33 + i - ((#[Value.int .u32 (home : Int)] : Array Value) ++ bc a).size = i by simp [bc_size, ha]]
  simpa [bc] using hu
theorem updc_sig (home : Nat) (a b : List UInt8) (ha : a.length = 32) (hb : b.length = 32) (cs : Array Value) (hc : cs.size = 4) (w : World) (g : Nat) (t : TypeId) (hg : w.heap[g]? = some (.cells (updc home a b cs) t (0, 0))) : w.rangeAt g 65 cs.toList := fun i u hu => by
  rw [cell_of_row _ _ _ _ _ _ hg]
  unfold updc
  rw [Array.getElem?_append_right (by simp [bc_size, ha, hb])]
  rw [show 65 + i - ((#[Value.int .u32 (home : Int)] : Array Value) ++ bc a ++ bc b).size = i by simp [bc_size, ha, hb]]
  simpa using hu
theorem updc_one (home : Nat) (a b : List UInt8) (cs : Array Value) (h : cs.all (·.oneCell') = true) : (updc home a b cs).all (·.oneCell') = true := by
  unfold updc
  rw [Array.all_append, Array.all_append, Array.all_append, bc_oneCell, bc_oneCell, h]
  simp [Value.oneCell']
/-- A stop's cells. -/
def stopc (home : Nat) (a : List UInt8) (x : Int) (cs : Array Value) : Array Value := #[Value.int .u32 (home : Int)] ++ bc a ++ #[Value.int .i64 x] ++ cs
theorem stopc_size (home : Nat) (a : List UInt8) (ha : a.length = 32) (x : Int) (cs : Array Value) (hc : cs.size = 4) : (stopc home a x cs).size = 38 := by simp [stopc, bc_size, ha, hc]
theorem stopc_home (home : Nat) (a : List UInt8) (x : Int) (cs : Array Value) : (stopc home a x cs)[0]? = some (.int .u32 (home : Int)) := by simp [stopc, Array.getElem?_append]
theorem stopc_who (home : Nat) (a : List UInt8) (ha : a.length = 32) (x : Int) (cs : Array Value) : (stopc home a x cs)[33]? = some (.int .i64 x) := by
  unfold stopc
  rw [Array.getElem?_append_left (by simp [bc_size, ha]), Array.getElem?_append_right (by simp [bc_size, ha])]
  rw [show 33 - ((#[Value.int .u32 (home : Int)] : Array Value) ++ bc a).size = 0 by simp [bc_size, ha]]
  rfl
theorem stopc_key (home : Nat) (a : List UInt8) (ha : a.length = 32) (x : Int) (cs : Array Value) (w : World) (g : Nat) (t : TypeId) (hg : w.heap[g]? = some (.cells (stopc home a x cs) t (0, 0))) : w.rangeAt g 1 (Lib.byteCells a) := fun i u hu => by
  have hi : i < a.length := by have := (List.getElem?_eq_some_iff.1 hu).1; rwa [Lib.byteCells_length] at this
  rw [cell_of_row _ _ _ _ _ _ hg]
  unfold stopc
  rw [Array.getElem?_append_left (by simp [bc_size, ha]; omega), Array.getElem?_append_left (by simp [bc_size, ha]; omega), Array.getElem?_append_right (by simp)]
  rw [show 1 + i - (#[Value.int .u32 (home : Int)] : Array Value).size = i by simp]
  simpa [bc] using hu
theorem stopc_sig (home : Nat) (a : List UInt8) (ha : a.length = 32) (x : Int) (cs : Array Value) (hc : cs.size = 4) (w : World) (g : Nat) (t : TypeId) (hg : w.heap[g]? = some (.cells (stopc home a x cs) t (0, 0))) : w.rangeAt g 34 cs.toList := fun i u hu => by
  rw [cell_of_row _ _ _ _ _ _ hg]
  unfold stopc
  rw [Array.getElem?_append_right (by simp [bc_size, ha])]
  rw [show 34 + i - ((#[Value.int .u32 (home : Int)] : Array Value) ++ bc a ++ #[Value.int .i64 x]).size = i by simp [bc_size, ha]]
  simpa using hu
theorem stopc_one (home : Nat) (a : List UInt8) (x : Int) (cs : Array Value) (h : cs.all (·.oneCell') = true) : (stopc home a x cs).all (·.oneCell') = true := by
  unfold stopc
  rw [Array.all_append, Array.all_append, Array.all_append, bc_oneCell, h]
  simp [Value.oneCell']
/-- A part of a row stored over another one. -/
theorem wpList_store_part {P : Program} {ops : Array Oper} {rest : List Oper} {op : Oper} {a : Act} {w : World} {Q : Exit → Act → World → Prop} (hgd : op.guard = none) (ty : TypeId) (x y : Operand) (ho : op.op = .store ty x y)
    (g o : Nat) (p m s D : Array Value) (t : TypeId) (hx : a.eval x = .pointer (some ⟨g, o, none⟩)) (hy : a.eval y = .agg D) (hp : p.size = o) (hm : m.size = D.size) (hg : w.heap[g]? = some (.cells (p ++ m ++ s) t (0, 0)))
    (hi : (P.info? ty).map (·.size) = some D.size) (h1 : D.all (·.oneCell') = true)
    (h : ∀ w', w'.heap[g]? = some (.cells (p ++ D ++ s) t (0, 0)) → (∀ k, k ≠ g → w'.heap[k]? = w.heap[k]?) → w'.heap.size = w.heap.size → (∀ B, B ≤ g → Below B w w') → wpList P ops Q rest (a.put op.dst undef) w') :
    wpList P ops Q (op :: rest) a w := by
  have hle : o + D.size ≤ (p ++ m ++ s).size := by simp only [Array.size_append]; omega
  have th : w.there g o D.size := by
    intro j hj
    refine ⟨?_, frozen_of_row _ _ _ _ _ hg⟩
    rw [cell_of_row _ _ _ _ _ _ hg]
    have : o + j < (p ++ m ++ s).size := by omega
    rw [Array.getElem?_eq_getElem this]; rfl
  refine wpList_store_mid hgd ty x y ho g o D hx hy th hi h1 ?_
  obtain ⟨r1, r2, r3, r4⟩ := setCells_heap g t D.toList o (p ++ m ++ s) w hg (by simpa using hle)
  refine h _ ?_ r2 r3 r4
  rw [r1]
  congr 2
  apply Array.ext'
  have e1 : (p ++ m ++ s).toList.take o = p.toList := by
    rw [Array.toList_append, Array.toList_append, List.append_assoc, List.take_left' (by simpa using hp)]
  have e2 : (p ++ m ++ s).toList.drop (o + D.toList.length) = s.toList := by
    rw [Array.toList_append, List.drop_left' (by simp [hp, hm])]
  rw [e1, e2]
  simp
theorem set_head (x y : Value) (A : Array Value) : (#[x] ++ A).setIfInBounds 0 y = #[y] ++ A := by
  apply Array.ext'
  simp
theorem set_at (p : Array Value) (x y : Value) (A : Array Value) (o : Nat) (h : p.size = o) : (p ++ #[x] ++ A).setIfInBounds o y = p ++ #[y] ++ A := by
  subst h
  apply Array.ext'
  simp
theorem updc_set (home h2 : Nat) (a b : List UInt8) (cs : Array Value) : (updc home a b cs).setIfInBounds 0 (.int .u32 (h2 : Int)) = updc h2 a b cs := by
  unfold updc
  rw [Array.append_assoc, Array.append_assoc, set_head, Array.append_assoc, Array.append_assoc]
theorem stopc_set (home h2 : Nat) (a : List UInt8) (x : Int) (cs : Array Value) : (stopc home a x cs).setIfInBounds 0 (.int .u32 (h2 : Int)) = stopc h2 a x cs := by
  unfold stopc
  rw [Array.append_assoc, Array.append_assoc, set_head, Array.append_assoc, Array.append_assoc]
theorem stopc_set_who (home : Nat) (a : List UInt8) (ha : a.length = 32) (x y : Int) (cs : Array Value) : (stopc home a x cs).setIfInBounds 33 (.int .i64 y) = stopc home a y cs := by
  unfold stopc
  exact set_at _ _ _ _ _ (by simp [bc_size, ha])
theorem upd_info (C : Array Value) (h : C.size = 69) : (Tryz.prog.info? 29).map (·.size) = some C.size := by rw [h]; kernel_rfl
theorem stop_info (C : Array Value) (h : C.size = 38) : (Tryz.prog.info? 31).map (·.size) = some C.size := by rw [h]; kernel_rfl
end Go.Proofs.YtocibklkpnblgaaGreatDoor

namespace Go.Proofs.YtocibklkpnblgaaGreatDoor
open Go.RowKit
set_option linter.unusedSimpArgs false
set_option linter.unusedVariables false

/-- A number's lowest bytes, the highest of them first. -/
def pBig (n width : Nat) : List UInt8 := (List.range width).map fun i => UInt8.ofNat (n / 2 ^ (8 * (width - 1 - i)))
theorem pBig_length (n width : Nat) : (pBig n width).length = width := by simp [pBig]
theorem pBig_at (n width i : Nat) (h : i < width) : (pBig n width).getD i 0 = UInt8.ofNat (n / 2 ^ (8 * (width - 1 - i))) := by
  simp [pBig, h]
theorem drop_cons' {α : Type} (l : List α) (k : Nat) (d : α) (h : k < l.length) : l.drop k = l.getD k d :: l.drop (k + 1) := by
  rw [List.drop_eq_getElem_cons h]; simp [h]

set_option maxHeartbeats 400000 in
set_option maxRecDepth 100000 in
theorem number_calls (n width : Nat) (hw : width ≤ 8) (hw1 : 1 ≤ width) (w : World) :
    Calls Tryz.prog 50 #[.int .u64 (n : Int), .int .i64 (width : Int)] w fun e w' => e = .returned (.string (str (pBig n width))) ∧ Below w.heap.size w w' := by
  have mk := make_bytes width (by omega)
  have hlen := pBig_length n width
  have hat := pBig_at n width
  generalize hP : pBig n width = P at *
  have HP := hide hP
  have Hlen := hide hlen
  have Hat := hide hat
  clear hP hlen hat
  go_enter Tryz.func50, Tryz.ntmps50
  go_wp2
  go_loopw [11] (fun i wr => ∃ k : Nat, k ≤ width ∧ i = .int .i64 k ∧ Below w.heap.size w wr ∧ wr.heap[w.heap.size]? = some (.cells (bc (List.replicate (width - k) 0 ++ P.drop (width - k))) 5 (0, 0))) (fun i _ => width - (intOf i).toNat)
  case atStart =>
    refine ⟨0, by omega, rfl, (Below.refl _ _).alloc (Nat.le_refl _) _, ?_⟩
    rw [al1, List.drop_of_length_le (by rw [unhide Hlen]; omega)]; simp
  case round =>
    obtain ⟨k, hk, rfl, hb, q⟩ := hrel
    by_cases hlt : k < width
    · obtain ⟨j, hj, ej⟩ : ∃ j : Nat, Hid (width - 1 - k = j) ∧ (width : Int) - 1 - (k : Int) = (j : Int) := ⟨_, rfl, by omega⟩
      have hjw : j < width := by have := unhide hj; omega
      have hsp : List.replicate (width - k) (0 : UInt8) ++ P.drop (width - k) = List.replicate j 0 ++ 0 :: P.drop (j + 1) := by
        have : width - k = j + 1 := by have := unhide hj; omega
        rw [this, List.replicate_succ']; simp
      rw [hsp] at q
      have hl : (List.replicate j 0 ++ 0 :: P.drop (j + 1) : List UInt8).length = width := by simp [unhide Hlen]; omega
      have c : wr.cell? ⟨w.heap.size, j, none⟩ = some (.int .u8 (((List.replicate j 0 ++ 0 :: P.drop (j + 1) : List UInt8).getD j 0).toNat : Int)) := by
        rw [cell_of_row _ _ _ _ _ _ q]; exact bc_at _ _ (by omega)
      have f : wr.frozen? ⟨w.heap.size, j, none⟩ = false := frozen_of_row _ _ _ _ _ q
      have b1 : (0 : Int) ≤ j ∧ (j : Int) < width := by omega
      obtain ⟨s, hs, es⟩ : ∃ s : Nat, Hid (8 * k = s) ∧ (8 : Int) * (k : Int) = (s : Int) := ⟨_, rfl, by omega⟩
      have hs64 : s ≤ 56 := by have := unhide hs; omega
      have hdk : decide ((k : Int) < (width : Int)) = true := by simp; omega
      generalize hv : (List.replicate j 0 ++ 0 :: P.drop (j + 1) : List UInt8).getD j 0 = v at c
      have Q := hide q
      clear hl hv mk q hsp
      go_wp2
      go_roundw
      case rel =>
        refine ⟨k + 1, by omega, by go_num, hb.setCell (by simp) _, ?_⟩
        rw [byte_mod, ← unhide hs, heap_setCell_same _ _ _ _ _ _ (unhide Q), bc_set _ _ _ _ _ (by simp)]
        have e1 : width - (k + 1) = j := by have := unhide hj; omega
        have e2 := unhide Hat j hjw
        have e3 : width - 1 - j = k := by have := unhide hj; omega
        rw [e3] at e2
        rw [e1, drop_cons' P j 0 (by rw [unhide Hlen]; omega), e2]; simp
      case measure => simp [intOf]; omega
    · have q' : wr.heap[w.heap.size]? = some (.cells (bc P) 5 (0, 0)) := by
        rw [q, show width - k = 0 by omega]; simp
      have hcv := run_convert_bytes_back (P := Tryz.prog) wr 82 9 5 ⟨w.heap.size, 0, none⟩ width P Tryz.underlying82 Tryz.underlying5 Tryz.underlying9 (fun j hj => by
        have hadd : (⟨w.heap.size, 0, none⟩ : Addr).add j = ⟨w.heap.size, j, none⟩ := by unfold Addr.add; split <;> simp_all
        rw [hadd, cell_of_row _ _ _ _ _ _ q', bc_at _ _ hj]; simp [hj])
      rw [unhide Hlen] at hcv
      have hd : decide ((k : Int) < (width : Int)) = false := by simp; omega
      clear q q' mk
      go_wp2
      go_ret
      exact ⟨by rfl, hb⟩
end Go.Proofs.YtocibklkpnblgaaGreatDoor

namespace Go.Proofs.YtocibklkpnblgaaGreatDoor
open Go.RowKit
set_option linter.unusedSimpArgs false
set_option linter.unusedVariables false

theorem wword_calls (n : Nat) (hn : n < 4294967296) (w : World) :
    Calls Tryz.prog 29 #[.int .u32 (n : Int)] w fun e w' => e = .returned (.string (str (pBig n 4))) ∧ Below w.heap.size w w' := by
  have hc := number_calls n 4 (by decide) (by decide) w
  generalize pBig n 4 = B at *
  have Hc := hide hc
  clear hc
  go_enter Tryz.func29, Tryz.ntmps29
  go_wp2_with fail
  refine (unhide Hc).mono ?_
  rintro e w' ⟨rfl, hb⟩
  go_wp2
  go_ret
  exact ⟨rfl, hb⟩
theorem wbyte_calls (n : Nat) (hn : n < 256) (w : World) :
    Calls Tryz.prog 70 #[.int .u8 (n : Int)] w fun e w' => e = .returned (.string (str (pBig n 1))) ∧ Below w.heap.size w w' := by
  have hc := number_calls n 1 (by decide) (by decide) w
  generalize pBig n 1 = B at *
  have Hc := hide hc
  clear hc
  go_enter Tryz.func70, Tryz.ntmps70
  go_wp2_with fail
  refine (unhide Hc).mono ?_
  rintro e w' ⟨rfl, hb⟩
  go_wp2
  go_ret
  exact ⟨rfl, hb⟩
/-- A text's length, and it. -/
def pText4 (l : List UInt8) : List UInt8 := pBig l.length 4 ++ l
theorem pText4_length (l : List UInt8) : (pText4 l).length = 4 + l.length := by unfold pText4; rw [List.length_append, pBig_length]
theorem wtext_calls (l : List UInt8) (hl : l.length < 4294967296) (w : World) :
    Calls Tryz.prog 79 #[.string (str l)] w fun e w' => e = .returned (.string (str (pText4 l))) ∧ Below w.heap.size w w' := by
  have hc := wword_calls l.length hl w
  unfold pText4
  have hlen := pBig_length l.length 4
  generalize pBig l.length 4 = B at *
  have Hc := hide hc
  have ea := append_str B l
  have n1 : ¬ 9223372036854775807 < B.length + l.length := by omega
  clear hc hlen
  go_enter Tryz.func79, Tryz.ntmps79
  go_wp2_with fail
  refine (unhide Hc).mono ?_
  rintro e w' ⟨rfl, hb⟩
  go_wp2
  go_ret
  exact ⟨rfl, hb⟩
end Go.Proofs.YtocibklkpnblgaaGreatDoor

namespace Go.Proofs.YtocibklkpnblgaaGreatDoor
open Go.RowKit
set_option linter.unusedSimpArgs false
set_option linter.unusedVariables false

set_option maxRecDepth 100000 in
theorem wdigest_calls (d : List UInt8) (hd : d.length = 32) (w : World) :
    Calls Tryz.prog 30 #[.agg (bc d)] w fun e w' => e = .returned (.string (str d)) ∧ Below w.heap.size w w' := by
  have hsz : (bc d).size = 32 := by rw [bc_size, hd]
  have q := al1 w (.cells (bc d) 24)
  have hcv := run_convert_bytes_back (P := Tryz.prog) (w.alloc (.cells (bc d) 24)) 82 9 5 ⟨w.heap.size, 0, none⟩ 32 d Tryz.underlying82 Tryz.underlying5 Tryz.underlying9 (fun j hj => by
    have hadd : (⟨w.heap.size, 0, none⟩ : Addr).add j = ⟨w.heap.size, j, none⟩ := by unfold Addr.add; split <;> simp_all
    rw [hadd, cell_of_row _ _ _ _ _ _ q, bc_at _ _ hj]; simp [hj])
  rw [hd] at hcv
  clear q hsz
  go_enter Tryz.func30, Tryz.ntmps30
  go_wp2
  go_ret
  exact ⟨rfl, (Below.refl _ _).alloc (Nat.le_refl _) _⟩
end Go.Proofs.YtocibklkpnblgaaGreatDoor

namespace Go.Proofs.YtocibklkpnblgaaGreatDoor
open Go.RowKit
set_option linter.unusedSimpArgs false
set_option linter.unusedVariables false

/-- All that lay there but one block lies as it lay. -/
structure Turned (g : Nat) (w w' : World) : Prop where
  below : Below g w w'
  kept : ∀ k, k < w.heap.size → k ≠ g → w'.heap[k]? = w.heap[k]?
theorem Turned.refl (g : Nat) (w : World) : Turned g w w := ⟨Below.refl _ _, fun _ _ _ => rfl⟩
theorem Turned.trans {g : Nat} {a b c : World} (h : Turned g a b) (k : Turned g b c) : Turned g a c :=
  ⟨h.below.trans k.below, fun i hi hg => (k.kept i (Nat.lt_of_lt_of_le hi h.below.size) hg).trans (h.kept i hi hg)⟩
theorem Turned.of_below {g : Nat} {w w' : World} (h : Below w.heap.size w w') (hg : g ≤ w.heap.size) : Turned g w w' :=
  ⟨h.mono hg, fun k hk _ => h.block k hk⟩
theorem Turned.setCell {g o : Nat} {w w' : World} (h : Turned g w w') (v : Value) : Turned g w (w'.setCell ⟨g, o, none⟩ v) :=
  ⟨h.below.setCell (by simp) _, fun k hk hg => by rw [heap_setCell_other _ _ _ _ (by show k ≠ g; exact hg)]; exact h.kept k hk hg⟩
theorem Turned.row {g k : Nat} {w w' : World} (h : Turned g w w') {o : Obj} (hg : k ≠ g) (ho : w.heap[k]? = some o) : w'.heap[k]? = some o :=
  (h.kept k (Array.getElem?_eq_some_iff.1 ho).1 hg).trans ho
/-- Behind a reader of the call's own, all that lay ahead of it lies. -/
theorem Turned.under {g B : Nat} {w0 w w' : World} (h : Turned g w w') (h0 : Below B w0 w) (hB : B ≤ g) : Below B w0 w' := h0.trans (h.below.mono hB)

/-- A reader: what is left, what is wrong. -/
structure Rd where
  (rest : List UInt8) (err : Int)
def Rd.cells (r : Rd) : Array Value := #[.string (str r.rest), .int .i64 r.err]
def RdAt (w : World) (g : Nat) (r : Rd) : Prop := w.heap[g]? = some (.cells r.cells 80 (0, 0))
theorem RdAt.lt {w : World} {g : Nat} {r : Rd} (h : RdAt w g r) : g < w.heap.size := (Array.getElem?_eq_some_iff.1 h).1
theorem RdAt.below {w w' : World} {g : Nat} {r : Rd} (h : RdAt w g r) (hb : Below w.heap.size w w') : RdAt w' g r := (hb.block g h.lt).trans h
theorem RdAt.c0 {w : World} {g : Nat} {r : Rd} (h : RdAt w g r) : w.cell? ⟨g, 0, none⟩ = some (.string (str r.rest)) := cell_of_row _ _ _ _ _ _ h
theorem RdAt.c1 {w : World} {g : Nat} {r : Rd} (h : RdAt w g r) : w.cell? ⟨g, 1, none⟩ = some (.int .i64 r.err) := cell_of_row _ _ _ _ _ _ h
theorem RdAt.f0 {w : World} {g : Nat} {r : Rd} (h : RdAt w g r) (o : Nat) : w.frozen? ⟨g, o, none⟩ = false := frozen_of_row _ _ _ _ _ h
theorem RdAt.set1 {w : World} {g : Nat} {r : Rd} (h : RdAt w g r) (e : Int) : RdAt (w.setCell ⟨g, 1, none⟩ (.int .i64 e)) g ⟨r.rest, e⟩ := heap_setCell_same _ _ _ _ _ _ h
theorem RdAt.set0 {w : World} {g : Nat} {r : Rd} (h : RdAt w g r) (l : List UInt8) : RdAt (w.setCell ⟨g, 0, none⟩ (.string (str l))) g ⟨l, r.err⟩ := heap_setCell_same _ _ _ _ _ _ h

def Rd.fail (r : Rd) (e : Int) : Rd := if r.err = 0 then ⟨r.rest, e⟩ else r
/-- A part of so many bytes, and the reader behind it. -/
def Rd.take (r : Rd) (n : Nat) : List UInt8 × Rd :=
  if r.err ≠ 0 then ([], r) else if r.rest.length < n then ([], ⟨r.rest, 3⟩) else (r.rest.take n, ⟨r.rest.drop n, 0⟩)

theorem left_calls (g : Nat) (r : Rd) (w : World) (h : RdAt w g r) :
    Calls Tryz.prog 64 #[.pointer (some ⟨g, 0, none⟩)] w fun e w' => e = .returned (.int .i64 (r.rest.length : Int)) ∧ w' = w := by
  have c0 := h.c0
  clear h
  go_enter Tryz.func64, Tryz.ntmps64
  go_wp2
  go_ret
  exact ⟨rfl, rfl⟩
theorem left_nil (w : World) :
    Calls Tryz.prog 64 #[.pointer none] w fun e w' => e = .returned (.int .i64 0) ∧ w' = w := by
  go_enter Tryz.func64, Tryz.ntmps64
  go_wp2
  go_ret
  exact ⟨rfl, rfl⟩
theorem failed_calls (g : Nat) (r : Rd) (w : World) (h : RdAt w g r) :
    Calls Tryz.prog 46 #[.pointer (some ⟨g, 0, none⟩)] w fun e w' => e = .returned (.bool (r.err != 0)) ∧ w' = w := by
  have c1 := h.c1
  clear h
  go_enter Tryz.func46, Tryz.ntmps46
  go_wp2
  go_ret
  exact ⟨rfl, rfl⟩
theorem failed_nil (w : World) :
    Calls Tryz.prog 46 #[.pointer none] w fun e w' => e = .returned (.bool true) ∧ w' = w := by
  go_enter Tryz.func46, Tryz.ntmps46
  go_wp2
  go_ret
  exact ⟨rfl, rfl⟩
theorem fail_calls (g : Nat) (r : Rd) (k : Int) (w : World) (h : RdAt w g r) :
    Calls Tryz.prog 44 #[.pointer (some ⟨g, 0, none⟩), .int .i64 k] w fun e w' => e = .returned (.tuple #[]) ∧ RdAt w' g (r.fail k) ∧ Turned g w w' := by
  have c1 := h.c1
  have f1 := h.f0 1
  by_cases h0 : r.err = 0
  · have e1 : (r.err == 0) = true := by simpa using h0
    have hr : r.fail k = ⟨r.rest, k⟩ := by rw [Rd.fail, if_pos h0]
    have H := hide h
    rw [hr]
    generalize r.err = re at *
    clear h0 h hr
    go_enter Tryz.func44, Tryz.ntmps44
    go_wp2
    go_end0
    exact ⟨rfl, (unhide H).set1 k, (Turned.refl _ _).setCell _⟩
  · have e1 : (r.err == 0) = false := by simpa using h0
    have hr : r.fail k = r := by rw [Rd.fail, if_neg h0]
    have H := hide h
    rw [hr]
    clear h0 h hr
    go_enter Tryz.func44, Tryz.ntmps44
    go_wp2
    go_end0
    exact ⟨rfl, unhide H, Turned.refl _ _⟩
theorem fail_nil (k : Int) (w : World) :
    Calls Tryz.prog 44 #[.pointer none, .int .i64 k] w fun e w' => e = .returned (.tuple #[]) ∧ w' = w := by
  go_enter Tryz.func44, Tryz.ntmps44
  go_wp2
  go_end0
  exact ⟨rfl, rfl⟩
def Rd.end' (r : Rd) : Int := if r.err ≠ 0 then r.err else if r.rest ≠ [] then 4 else 0
theorem end_nil (w : World) :
    Calls Tryz.prog 24 #[.pointer none] w fun e w' => e = .returned (.int .i64 1) ∧ w' = w := by
  go_enter Tryz.func24, Tryz.ntmps24
  go_wp2
  go_ret
  exact ⟨rfl, rfl⟩
theorem take_nil (n : Nat) (hn : n ≤ 9223372036854775807) (w : World) :
    Calls Tryz.prog 43 #[.pointer none, .int .i64 (n : Int)] w fun e w' => e = .returned (.string (str [])) ∧ w' = w := by
  cases hd : decide (0 < n) with
  | true =>
    go_enter Tryz.func43, Tryz.ntmps43
    go_wp2_with fail
    refine (left_nil _).mono ?_
    rintro e w' ⟨rfl, rfl⟩
    go_wp2_with fail
    refine (fail_nil _ _).mono ?_
    rintro e w' ⟨rfl, rfl⟩
    go_wp2_with fail
    refine (failed_nil _).mono ?_
    rintro e w' ⟨rfl, rfl⟩
    go_wp2
    go_ret
    exact ⟨rfl, rfl⟩
  | false =>
    go_enter Tryz.func43, Tryz.ntmps43
    go_wp2_with fail
    refine (left_nil _).mono ?_
    rintro e w' ⟨rfl, rfl⟩
    go_wp2_with fail
    refine (failed_nil _).mono ?_
    rintro e w' ⟨rfl, rfl⟩
    go_wp2
    go_ret
    exact ⟨rfl, rfl⟩
theorem rdend_calls (g : Nat) (r : Rd) (w : World) (h : RdAt w g r) :
    Calls Tryz.prog 24 #[.pointer (some ⟨g, 0, none⟩)] w fun e w' => e = .returned (.int .i64 r.end') ∧ w' = w := by
  have c0 := h.c0
  have c1 := h.c1
  clear h
  by_cases h0 : r.err = 0
  · have e1 : (r.err != 0) = false := by simpa using h0
    by_cases h1 : r.rest = []
    · have hr : r.end' = 0 := by simp [Rd.end', h0, h1]
      rw [hr]
      rw [h1, show str [] = (⟨#[]⟩ : ByteArray) from rfl] at c0
      generalize r.err = re at *
      clear hr h0 h1
      go_enter Tryz.func24, Tryz.ntmps24
      go_wp2
      go_ret
      exact ⟨rfl, rfl⟩
    · have hr : r.end' = 4 := by simp [Rd.end', h0, h1]
      have hne : (str r.rest).toList.isEmpty = false := by rw [ByteArray.toList_eq, str_toList]; cases hl : r.rest with | nil => exact absurd hl h1 | cons _ _ => rfl
      rw [hr]
      generalize r.err = re at *
      clear hr h0 h1
      go_enter Tryz.func24, Tryz.ntmps24
      go_wp2
      go_ret
      exact ⟨rfl, rfl⟩
  · have e1 : (r.err != 0) = true := by simpa using h0
    have hr : r.end' = r.err := by simp [Rd.end', h0]
    rw [hr]
    clear hr h0
    go_enter Tryz.func24, Tryz.ntmps24
    go_wp2
    go_ret
    exact ⟨rfl, rfl⟩
set_option maxHeartbeats 1000000 in
theorem take_calls (g n : Nat) (hn : n ≤ 4611686018427387904) (r : Rd) (hl : r.rest.length ≤ 4611686018427387904) (w : World) (h : RdAt w g r) :
    Calls Tryz.prog 43 #[.pointer (some ⟨g, 0, none⟩), .int .i64 (n : Int)] w fun e w' => e = .returned (.string (str (r.take n).1)) ∧ RdAt w' g (r.take n).2 ∧ Turned g w w' := by
  by_cases h0 : r.err = 0
  · by_cases h1 : r.rest.length < n
    · have hd : decide (r.rest.length < n) = true := by simp; omega
      have hr : r.take n = ([], ⟨r.rest, 3⟩) := by simp [Rd.take, h0, h1]
      have hf : r.fail 3 = ⟨r.rest, 3⟩ := by rw [Rd.fail, if_pos h0]
      rw [hr]
      have H := hide h
      have Hf := hide hf
      clear hr h0 h1 h hf
      go_enter Tryz.func43, Tryz.ntmps43
      go_wp2_with fail
      refine (left_calls g r _ (unhide H)).mono ?_
      rintro e w' ⟨rfl, rfl⟩
      go_wp2_with fail
      refine (fail_calls g r 3 _ (unhide H)).mono ?_
      rintro e w1 ⟨rfl, h1, t1⟩
      rw [unhide Hf] at h1
      have H1 := hide h1
      clear h1
      go_wp2_with fail
      refine (failed_calls g _ _ (unhide H1)).mono ?_
      rintro e w' ⟨rfl, rfl⟩
      go_wp2
      go_ret
      exact ⟨rfl, unhide H1, t1⟩
    · have hd : decide (r.rest.length < n) = false := by simp; omega
      have hr : r.take n = (r.rest.take n, ⟨r.rest.drop n, 0⟩) := by simp [Rd.take, h0, h1]
      have e0 : (r.err != 0) = false := by simpa using h0
      rw [hr]
      have H := hide h
      have H0 := hide h0
      have c0 := h.c0
      have f0 := h.f0 0
      have es := take_str r.rest n
      have ed := drop_str r.rest n _ rfl
      have b0 : (n : Int) ≤ (r.rest.length : Int) := by omega
      clear hr h0 h1 h
      go_enter Tryz.func43, Tryz.ntmps43
      go_wp2_with fail
      refine (left_calls g r _ (unhide H)).mono ?_
      rintro e w' ⟨rfl, rfl⟩
      go_wp2_with fail
      refine (failed_calls g r _ (unhide H)).mono ?_
      rintro e w' ⟨rfl, rfl⟩
      rw [e0]
      go_wp2
      go_ret
      have h2 := (unhide H).set0 (r.rest.drop n)
      rw [unhide H0] at h2
      exact ⟨rfl, h2, (Turned.refl _ _).setCell _⟩
  · have e0 : (r.err != 0) = true := by simpa using h0
    have hr : r.take n = ([], r) := by simp [Rd.take, h0]
    have hf : r.fail 3 = r := by rw [Rd.fail, if_neg h0]
    rw [hr]
    have H := hide h
    have Hf := hide hf
    clear hr h0 h hf
    cases hd : decide (r.rest.length < n) with
    | true =>
      go_enter Tryz.func43, Tryz.ntmps43
      go_wp2_with fail
      refine (left_calls g r _ (unhide H)).mono ?_
      rintro e w' ⟨rfl, rfl⟩
      go_wp2_with fail
      refine (fail_calls g r 3 _ (unhide H)).mono ?_
      rintro e w1 ⟨rfl, h1, t1⟩
      rw [unhide Hf] at h1
      have H1 := hide h1
      clear h1
      go_wp2_with fail
      refine (failed_calls g _ _ (unhide H1)).mono ?_
      rintro e w' ⟨rfl, rfl⟩
      rw [e0]
      go_wp2
      go_ret
      exact ⟨rfl, unhide H1, t1⟩
    | false =>
      go_enter Tryz.func43, Tryz.ntmps43
      go_wp2_with fail
      refine (left_calls g r _ (unhide H)).mono ?_
      rintro e w' ⟨rfl, rfl⟩
      go_wp2_with fail
      refine (failed_calls g _ _ (unhide H)).mono ?_
      rintro e w' ⟨rfl, rfl⟩
      rw [e0]
      go_wp2
      go_ret
      exact ⟨rfl, unhide H, Turned.refl _ _⟩
end Go.Proofs.YtocibklkpnblgaaGreatDoor

namespace Go.Proofs.YtocibklkpnblgaaGreatDoor
open Go.RowKit
set_option linter.unusedSimpArgs false
set_option linter.unusedVariables false

/-- The number that bytes are, the highest first. -/
def pNum (l : List UInt8) : Nat := l.foldl (fun n b => n * 256 + b.toNat) 0
theorem pNum_snoc (l : List UInt8) (b : UInt8) : pNum (l ++ [b]) = pNum l * 256 + b.toNat := by simp [pNum]
theorem pNum_lt_from : ∀ (l : List UInt8) (a : Nat), l.foldl (fun n b => n * 256 + b.toNat) a < (a + 1) * 256 ^ l.length
  | [], a => by simp
  | b :: l, a => by
    have h := pNum_lt_from l (a * 256 + b.toNat)
    have hb := b.toNat_lt
    rw [List.foldl_cons, List.length_cons, Nat.pow_succ, Nat.mul_comm (256 ^ l.length) 256, ← Nat.mul_assoc]
    exact Nat.lt_of_lt_of_le h (Nat.mul_le_mul_right _ (by omega))
theorem pNum_lt (l : List UInt8) : pNum l < 256 ^ l.length := by
  have := pNum_lt_from l 0
  rw [Nat.zero_add, Nat.one_mul] at this; exact this
theorem or256 (m b : Nat) (hm : m < 72057594037927936) (hb : b < 256) : bits BinOp.or IntKind.u64 ((m : Int) * 256) (b : Int) = ((m * 256 + b : Nat) : Int) := by
  have e : (m : Int) * 256 = ((m * 256 : Nat) : Int) := by omega
  rw [e, u64_or_nat _ _ (by omega) (by omega), nat_join 8 _ _ (by omega) (by omega)]

set_option maxHeartbeats 400000 in
theorem rnumber_of (p : Value) (n : Nat) (l : List UInt8) (hl : l.length ≤ 8) (R : World → Prop) (w : World)
    (ht : Calls Tryz.prog 43 #[p, .int .i64 (n : Int)] w fun e w1 => e = .returned (.string (str l)) ∧ R w1) :
    Calls Tryz.prog 42 #[p, .int .i64 (n : Int)] w fun e w' => e = .returned (.int .u64 (pNum l : Int)) ∧ ∃ w1, R w1 ∧ Below w1.heap.size w1 w' := by
  have Ht := hide ht
  clear ht
  go_enter Tryz.func42, Tryz.ntmps42
  go_wp2_with fail
  refine (unhide Ht).mono ?_
  rintro e w1 ⟨rfl, hR⟩
  have cv := conv_run l w1
  have hby := bworld_bytes w1 l
  have hbb := bworld_below l (Below.refl w1.heap.size w1) (Nat.le_refl _)
  generalize hW : bworld w1 l = W at *
  have Hby := hide hby
  clear hby hW
  go_wp2
  go_loopw [5, 13] (fun a i wr => ∃ k : Nat, k ≤ l.length ∧ a = .int .u64 (pNum (l.take k) : Int) ∧ i = .int .i64 (k : Int) ∧ wr = W) (fun _ i _ => l.length - (intOf i).toNat)
  case atStart => exact ⟨0, by omega, rfl, rfl, rfl⟩
  case round =>
    obtain ⟨k, hk, rfl, rfl, rfl⟩ := hrel
    by_cases hlt : k < l.length
    · have c := unhide Hby k hlt
      rw [Nat.zero_add] at c
      have hsn := take_snoc' l k 0 hlt
      generalize hb : l.getD k 0 = b at *
      have hpn := pNum_snoc (l.take k) b
      rw [← hsn] at hpn
      have hlt2 := pNum_lt (l.take k)
      have hm : pNum (l.take k) < 72057594037927936 := Nat.lt_of_lt_of_le hlt2 (by
        have : (l.take k).length ≤ 7 := by simp; omega
        calc 256 ^ (l.take k).length ≤ 256 ^ 7 := Nat.pow_le_pow_right (by decide) this
          _ = 72057594037927936 := by decide)
      generalize pNum (l.take k) = m at *
      have hb8 := b.toNat_lt
      have hd : decide (k < l.length) = true := by simpa using hlt
      have b1 : (k : Int) < (l.length : Int) := by omega
      have Hpn := hide hpn
      clear hpn hsn hb hlt2
      go_wp2
      go_roundw
      case rel =>
        refine ⟨k + 1, by omega, ?_, by go_num, trivial⟩
        rw [unhide Hpn]
        rw [or256 m b.toNat hm hb8]
      case measure => simp [intOf]; omega
    · obtain rfl : k = l.length := by omega
      have hd : decide (l.length < l.length) = false := by simp
      rw [List.take_length]
      go_wp2
      go_ret
      exact ⟨rfl, w1, hR, hbb⟩
/-- The number of so many bytes, and the reader behind it. -/
def Rd.num (r : Rd) (n : Nat) : Nat × Rd := (pNum (r.take n).1, (r.take n).2)
theorem Rd.take_length (r : Rd) (n : Nat) : (r.take n).1.length ≤ n := by
  unfold Rd.take
  split
  · simp
  · split
    · simp
    · simp; omega
theorem Rd.take_rest (r : Rd) (n : Nat) : (r.take n).2.rest.length ≤ r.rest.length := by
  unfold Rd.take
  split
  · simp
  · split
    · simp
    · simp
theorem Rd.num_lt (r : Rd) (n : Nat) : (r.num n).1 < 256 ^ n := Nat.lt_of_lt_of_le (pNum_lt _) (Nat.pow_le_pow_right (by decide) (r.take_length n))
theorem rnumber_calls (g n : Nat) (hn : n ≤ 8) (r : Rd) (hl : r.rest.length ≤ 4611686018427387904) (w : World) (h : RdAt w g r) :
    Calls Tryz.prog 42 #[.pointer (some ⟨g, 0, none⟩), .int .i64 (n : Int)] w fun e w' => e = .returned (.int .u64 ((r.num n).1 : Int)) ∧ RdAt w' g (r.num n).2 ∧ Turned g w w' := by
  refine (rnumber_of _ n (r.take n).1 (Nat.le_trans (r.take_length n) hn) (fun w1 => RdAt w1 g (r.take n).2 ∧ Turned g w w1) w (take_calls g n (by omega) r hl w h)).mono ?_
  rintro e w' ⟨rfl, w1, ⟨h1, t1⟩, hb⟩
  exact ⟨rfl, h1.below hb, t1.trans (Turned.of_below hb (Nat.le_of_lt h1.lt))⟩
theorem rnumber_nil (n : Nat) (hn : n ≤ 8) (w : World) :
    Calls Tryz.prog 42 #[.pointer none, .int .i64 (n : Int)] w fun e w' => e = .returned (.int .u64 0) ∧ Below w.heap.size w w' := by
  refine (rnumber_of _ n [] (by simp) (fun w1 => w1 = w) w (take_nil n (by omega) w)).mono ?_
  rintro e w' ⟨rfl, w1, rfl, hb⟩
  exact ⟨rfl, hb⟩
theorem rword_calls (g : Nat) (r : Rd) (hl : r.rest.length ≤ 4611686018427387904) (w : World) (h : RdAt w g r) :
    Calls Tryz.prog 21 #[.pointer (some ⟨g, 0, none⟩)] w fun e w' => e = .returned (.int .u32 ((r.num 4).1 : Int)) ∧ RdAt w' g (r.num 4).2 ∧ Turned g w w' := by
  have hc := rnumber_calls g 4 (by decide) r hl w h
  have hlt := r.num_lt 4
  generalize (r.num 4).2 = r1 at *
  generalize (r.num 4).1 = m at *
  have Hc := hide hc
  have hm : m < 4294967296 := hlt
  clear hc h hlt
  go_enter Tryz.func21, Tryz.ntmps21
  go_wp2_with fail
  refine (unhide Hc).mono ?_
  rintro e w' ⟨rfl, h1, t1⟩
  go_wp2
  go_ret
  exact ⟨rfl, h1, t1⟩
theorem rword_nil (w : World) :
    Calls Tryz.prog 21 #[.pointer none] w fun e w' => e = .returned (.int .u32 0) ∧ Below w.heap.size w w' := by
  go_enter Tryz.func21, Tryz.ntmps21
  go_wp2_with fail
  refine (rnumber_nil 4 (by decide) _).mono ?_
  rintro e w' ⟨rfl, hb⟩
  go_wp2
  go_ret
  exact ⟨rfl, hb⟩
/-- A word that is at most so much. -/
def Rd.len (r : Rd) (most : Int) : Nat × Rd := ((r.num 4).1, if 0 < (r.num 4).1 ∧ most < ((r.num 4).1 : Int) then (r.num 4).2.fail 5 else (r.num 4).2)
theorem Rd.len_lt (r : Rd) (most : Int) : (r.len most).1 < 4294967296 := r.num_lt 4
set_option maxHeartbeats 400000 in
theorem rlength_calls (g : Nat) (r : Rd) (hl : r.rest.length ≤ 4611686018427387904) (most : Int) (w : World) (h : RdAt w g r) :
    Calls Tryz.prog 65 #[.pointer (some ⟨g, 0, none⟩), .int .i64 most] w fun e w' => e = .returned (.int .i64 ((r.len most).1 : Int)) ∧ RdAt w' g (r.len most).2 ∧ Turned g w w' := by
  have hc := rword_calls g r hl w h
  have hlt := r.num_lt 4
  unfold Rd.len
  generalize (r.num 4).2 = r1 at *
  generalize (r.num 4).1 = m at *
  have Hc := hide hc
  have hm : m < 4294967296 := hlt
  clear hc h hlt
  by_cases h0 : 0 < m
  · have d0 : decide (0 < m) = true := by simpa using h0
    by_cases h1 : most < (m : Int)
    · have d1 : decide (most < (m : Int)) = true := by simpa using h1
      have hr : (if 0 < m ∧ most < (m : Int) then r1.fail 5 else r1) = r1.fail 5 := by simp [h0, h1]
      simp only [hr]
      clear hr h0 h1
      go_enter Tryz.func65, Tryz.ntmps65
      go_wp2_with fail
      refine (unhide Hc).mono ?_
      rintro e w1 ⟨rfl, h1, t1⟩
      go_wp2_with fail
      refine (fail_calls g r1 5 _ h1).mono ?_
      rintro e w2 ⟨rfl, h2, t2⟩
      go_wp2
      go_ret
      exact ⟨rfl, h2, t1.trans t2⟩
    · have d1 : decide (most < (m : Int)) = false := by simpa using h1
      have hr : (if 0 < m ∧ most < (m : Int) then r1.fail 5 else r1) = r1 := by simp [h0, h1]
      simp only [hr]
      clear hr h0 h1
      go_enter Tryz.func65, Tryz.ntmps65
      go_wp2_with fail
      refine (unhide Hc).mono ?_
      rintro e w1 ⟨rfl, h1, t1⟩
      go_wp2
      go_ret
      exact ⟨rfl, h1, t1⟩
  · have d0 : decide (0 < m) = false := by simpa using h0
    have hr : (if 0 < m ∧ most < (m : Int) then r1.fail 5 else r1) = r1 := by simp [h0]
    simp only [hr]
    clear hr h0
    go_enter Tryz.func65, Tryz.ntmps65
    go_wp2_with fail
    refine (unhide Hc).mono ?_
    rintro e w1 ⟨rfl, h1, t1⟩
    go_wp2
    go_ret
    exact ⟨rfl, h1, t1⟩
theorem rlength_nil (most : Int) (w : World) :
    Calls Tryz.prog 65 #[.pointer none, .int .i64 most] w fun e w' => e = .returned (.int .i64 0) ∧ Below w.heap.size w w' := by
  go_enter Tryz.func65, Tryz.ntmps65
  go_wp2_with fail
  refine (rword_nil _).mono ?_
  rintro e w' ⟨rfl, hb⟩
  go_wp2
  go_ret
  exact ⟨rfl, hb⟩
theorem Rd.fail_rest (r : Rd) (e : Int) : (r.fail e).rest = r.rest := by unfold Rd.fail; split <;> rfl
theorem Rd.len_rest (r : Rd) (most : Int) : (r.len most).2.rest.length ≤ r.rest.length := by
  unfold Rd.len
  have := r.take_rest 4
  split
  · rw [Rd.fail_rest]; exact this
  · exact this
/-- A text of at most so many bytes. -/
def Rd.text (r : Rd) (most : Int) : List UInt8 × Rd := (r.len most).2.take (r.len most).1
end Go.Proofs.YtocibklkpnblgaaGreatDoor

namespace Go.Proofs.YtocibklkpnblgaaGreatDoor
open Go Go.RowKit
set_option linter.unusedSimpArgs false
set_option linter.unusedVariables false

theorem bc_toList (l : List UInt8) : (bc l).toList = Lib.byteCells l := by simp [bc]
theorem run_copy_str {P : Program} (w : World) (dT sT ty elem : TypeId) (g o dLen dCap : Nat) (l cur : List UInt8) (t : TypeId)
    (hu : P.underlying dT = some (.slice elem)) (hs : (P.info? elem).map (·.size) = some 1) (hg : w.heap[g]? = some (.cells (bc cur) t (0, 0))) (m : Nat) (hm : m = Nat.min l.length dLen) (hfit : o + m ≤ cur.length) :
    (Builtin.copy_ #[dT, sT] ty #[.slice (some ⟨g, o, none⟩) dLen dCap, .string (str l)]).run P w = .ok (goInt m) (w.setRow g (bc (cur.take o ++ l.take m ++ cur.drop (o + m)))) := by
  have hl : (Lib.byteCells (l.take m)).length = m := by
    rw [Lib.byteCells_length, List.length_take, hm]; exact Nat.min_eq_left (Nat.min_le_left _ _)
  have hst := run_storeCells_at (P := P) g o t (Lib.byteCells (l.take m)) 0 (bc cur) w hg (by rw [hl, bc_size]; simpa using hfit) (Lib.byteCells_one _)
  rw [hl, bc_toList, Nat.add_zero] at hst
  have e : ((Lib.byteCells cur).take o ++ Lib.byteCells (l.take m) ++ (Lib.byteCells cur).drop (o + m)).toArray = bc (cur.take o ++ l.take m ++ cur.drop (o + m)) := by
    simp [bc, Lib.byteCells]
  rw [e] at hst
  have hmin : Nat.min (str l).size dLen = m := by rw [str_size, hm]
  have htk : List.take m (List.map (fun b : UInt8 => Value.int IntKind.u8 (b.toNat : Int)) (str l).data.toList) = Lib.byteCells (l.take m) := by
    rw [str_toList]; simp [Lib.byteCells]
  cases hq : P.info? elem with
  | none => simp [hq] at hs
  | some i =>
    simp [Builtin.copy_, run_underlying hu, Builtin.lenOf, Builtin.firstCells, sizeOf, typeInfo, hq]
    rw [str_size] at hmin
    have hmin' : (min l.length dLen) = m := hmin
    rw [str_toList] at htk
    simp [hmin', htk, hst, Result.andThen]
theorem step_copy_str {P : Program} {ops : Array Oper} {o : Oper} {a : Act} {w : World} {K : Act → World → Prop} {Q : Exit → Act → World → Prop} {E : Prop}
    (hgd : o.guard = none) (d x : Operand) (dT sT : TypeId) (hop : o.op = Op.call { callee := Callee.builtin Builtin.copy, args := #[d, x], argTypes := #[dT, sT] })
    (elem : TypeId) (hu : P.underlying dT = some (.slice elem)) (hs : (P.info? elem).map (·.size) = some 1)
    (g off dLen dCap : Nat) (hd : a.eval d = .slice (some ⟨g, off, none⟩) dLen dCap) (l : List UInt8) (hx : a.eval x = .string (str l)) (cur : List UInt8) (t : TypeId) (hg : w.heap[g]? = some (.cells (bc cur) t (0, 0)))
    (m : Nat) (hm : m = Nat.min l.length dLen) (hfit : off + m ≤ cur.length)
    (hK : K (a.put o.dst (goInt m)) (w.setRow g (bc (cur.take off ++ l.take m ++ cur.drop (off + m))))) :
    if Region.wanted o (yielded ops a.tmps) = true then Oper.wp P o a w K Q else E := by
  have hw : Region.wanted o (yielded ops a.tmps) = true := by simp [Region.wanted, hgd]
  rw [if_pos hw]
  have hrun := run_copy_str (P := P) w dT sT o.type elem g off dLen dCap l cur t hu hs hg m hm hfit
  unfold Oper.wp
  rw [List.append_assoc] at hK hrun
  simp [execOp, hop, resolve, invoke, builtin, hd, hx, hrun, Result.andThen]
  exact hK
theorem wpList_copy_str {P : Program} {w : World} {ops : Array Oper} {rest : List Oper} {o : Oper} {a : Act} {Q : Exit → Act → World → Prop} (hgd : o.guard = none) (d x : Operand) (dT sT : TypeId)
    (hop : o.op = Op.call { callee := Callee.builtin Builtin.copy, args := #[d, x], argTypes := #[dT, sT] })
    (elem : TypeId) (hu : P.underlying dT = some (.slice elem)) (hs : (P.info? elem).map (·.size) = some 1)
    (g off dLen dCap : Nat) (hd : a.eval d = .slice (some ⟨g, off, none⟩) dLen dCap) (l : List UInt8) (hx : a.eval x = .string (str l)) (cur : List UInt8) (t : TypeId) (hg : w.heap[g]? = some (.cells (bc cur) t (0, 0)))
    (m : Nat) (hm : m = Nat.min l.length dLen) (hfit : off + m ≤ cur.length)
    (h : wpList P ops Q rest (a.put o.dst (goInt m)) (w.setRow g (bc (cur.take off ++ l.take m ++ cur.drop (off + m))))) : wpList P ops Q (o :: rest) a w := by
  refine wpList_plain hgd fun K hK => ?_
  have hrun := run_copy_str (P := P) w dT sT o.type elem g off dLen dCap l cur t hu hs hg m hm hfit
  unfold Oper.wp
  rw [List.append_assoc] at h hrun
  simp [execOp, hop, resolve, invoke, builtin, hd, hx, hrun, Result.andThen]
  exact hK _ _ h
end Go.Proofs.YtocibklkpnblgaaGreatDoor

namespace Go.Proofs.YtocibklkpnblgaaGreatDoor
open Go.RowKit
set_option linter.unusedSimpArgs false
set_option linter.unusedVariables false

/-- A digest of the bytes that are there. -/
def pad32 (l : List UInt8) : List UInt8 := l ++ List.replicate (32 - l.length) 0
theorem pad32_length (l : List UInt8) (h : l.length ≤ 32) : (pad32 l).length = 32 := by simp [pad32]; omega

set_option maxHeartbeats 1000000 in
set_option maxRecDepth 100000 in
theorem rdigest_of (p : Value) (l : List UInt8) (hl : l.length ≤ 32) (Post : World → World → Prop) (w : World)
    (ht : ∀ w1, Below w.heap.size w w1 → Calls Tryz.prog 43 #[p, .int .i64 32] w1 fun e w2 => e = .returned (.string (str l)) ∧ Post w1 w2)
    (hP : ∀ w1 w2, Post w1 w2 → ∀ k o, w.heap.size ≤ k → w1.heap[k]? = some o → w2.heap[k]? = some o) :
    Calls Tryz.prog 22 #[p] w fun e w' => e = .returned (.agg (bc (pad32 l))) ∧ ∃ w1 w2, Below w.heap.size w w1 ∧ Post w1 w2 ∧ Below w.heap.size w2 w' := by
  have q0 := (al2 w (.cells (bc (List.replicate 32 0)) 24) (.cells (bc (List.replicate 32 0)) 24)).1
  have q1 := (al2 w (.cells (bc (List.replicate 32 0)) 24) (.cells (bc (List.replicate 32 0)) 24)).2
  have hb2 := bel2 w (.cells (bc (List.replicate 32 0)) 24) (.cells (bc (List.replicate 32 0)) 24)
  have ht2 : ∀ w1, Below ((w.alloc (.cells (bc (List.replicate 32 0)) 24)).alloc (.cells (bc (List.replicate 32 0)) 24)).heap.size ((w.alloc (.cells (bc (List.replicate 32 0)) 24)).alloc (.cells (bc (List.replicate 32 0)) 24)) w1 → Calls Tryz.prog 43 #[p, .int .i64 32] w1 fun e w2 => e = .returned (.string (str l)) ∧ (∃ w1, Below w.heap.size w w1 ∧ Post w1 w2) ∧ w2.heap[w.heap.size]? = some (.cells (bc (List.replicate 32 0)) 24 (0, 0)) ∧ w2.heap[w.heap.size + 1]? = some (.cells (bc (List.replicate 32 0)) 24 (0, 0)) := fun w1 hb1 => by
    have hbw : Below w.heap.size w w1 := hb2.trans (hb1.mono hb2.size)
    refine (ht w1 hbw).mono ?_
    rintro e w2 ⟨rfl, hp⟩
    exact ⟨rfl, ⟨w1, hbw, hp⟩, hP _ _ hp _ _ (Nat.le_refl _) (Below.at hb1 (by simp; omega) q0), hP _ _ hp _ _ (by omega) (Below.at hb1 (by simp) q1)⟩
  have Ht := hide ht2
  clear ht hP q0 q1 hb2 ht2
  have hsz : List.replicate 32 (0 : UInt8) = List.replicate 32 0 := rfl
  go_enter Tryz.func22, Tryz.ntmps22
  go_wp2
  change Code.wp _ _ _ _ ((w.alloc (.cells (bc (List.replicate 32 0)) 24)).alloc (.cells (bc (List.replicate 32 0)) 24))
  generalize hW : (w.alloc (.cells (bc (List.replicate 32 0)) 24)).alloc (.cells (bc (List.replicate 32 0)) 24) = W at *
  clear hW
  go_region_held3 (fun _ => True) (exact trivial)
    (first
      | (go_at_call 43; refine (unhide Ht _ ?_).mono ?_; (repeat' (first | with_reducible assumption | with_reducible exact Below.refl _ _ | with_reducible refine Below.drew ?_)); rintro e w2 ⟨rfl, ⟨w1, hb1, hp1⟩, r0, r1⟩)
      | (refine step_copy_str rfl (.tmp 4) (.tmp 6) 82 9 rfl 5 Tryz.underlying82 (by kernel_rfl) (w.heap.size + 1) 0 32 32 (by simp [Act.eval, Act.put]) l (by simp [Act.eval, Act.put]) (List.replicate 32 0) 24 r1 l.length (by show _ = min _ _; omega) (by simp; omega) ?_))
  all_goals
    have hnew : List.take 0 (List.replicate 32 (0 : UInt8)) ++ List.take l.length l ++ List.drop (0 + l.length) (List.replicate 32 0) = pad32 l := by
      rw [List.drop_replicate, List.take_zero, List.take_length, Nat.zero_add]; rfl
    rw [hnew]
    have hlen := pad32_length l hl
    generalize hd : pad32 l = d at *
    have Hd := hide hd
    clear hd
    have q1 := setRow_heap w2 (w.heap.size + 1) _ (bc d) _ _ r1
    have q0 : (w2.setRow (w.heap.size + 1) (bc d)).heap[w.heap.size]? = _ := (setRow_other w2 (w.heap.size + 1) w.heap.size (bc d) (by omega)).trans r0
    have hbd : Below w.heap.size w2 (w2.setRow (w.heap.size + 1) (bc d)) := below_setRow (Below.refl _ _) (by omega) _
    generalize w2.setRow (w.heap.size + 1) (bc d) = w3 at *
    have hil : (Tryz.prog.info? 24).map (·.size) = some (bc d).size := by rw [bc_size, hlen]; kernel_rfl
    have hsz2 : (bc (List.replicate 32 (0 : UInt8))).size = (bc d).size := by rw [bc_size, bc_size, hlen]; rfl
    have ho1 := bc_oneCell d
    clear hnew hlen r0 r1
    go_wp2_with (first
      | (refine wpList_load_row rfl 24 (.tmp 3) rfl (w.heap.size + 1) rfl 24 _ (0, 0) _ q1 Tryz.underlying24 rfl hil ?_)
      | (refine wpList_store_row rfl 24 (.tmp 2) (.tmp 8) rfl w.heap.size _ rfl rfl 24 _ q0 hil hsz2 ho1 ?_))
    exact bodyPost_ret (results_cell_row rfl _ _ w.heap.size _ _ _ _ rfl (setRow_heap _ _ _ _ _ _ q0) Tryz.underlying24 rfl hil) rfl ⟨by rw [unhide Hd], w1, w2, hb1, hp1, below_setRow hbd (Nat.le_refl _) _⟩
theorem rdigest_calls (g : Nat) (r : Rd) (hl : r.rest.length ≤ 4611686018427387904) (w : World) (h : RdAt w g r) :
    Calls Tryz.prog 22 #[.pointer (some ⟨g, 0, none⟩)] w fun e w' => e = .returned (.agg (bc (pad32 (r.take 32).1))) ∧ RdAt w' g (r.take 32).2 ∧ Turned g w w' := by
  have hg := h.lt
  refine (rdigest_of _ (r.take 32).1 (r.take_length 32) (fun w1 w2 => RdAt w2 g (r.take 32).2 ∧ Turned g w1 w2) w (fun w1 hb => take_calls g 32 (by decide) r hl w1 (h.below hb)) (fun w1 w2 hp k o hk ho => hp.2.row (by omega) ho)).mono ?_
  rintro e w' ⟨rfl, w1, w2, hb1, ⟨h2, t2⟩, hb3⟩
  refine ⟨rfl, (hb3.block g hg).trans h2, ⟨(hb1.mono (by omega)).trans (t2.below.trans (hb3.mono (by omega))), fun k hk hkg => ?_⟩⟩
  rw [hb3.block k hk, t2.kept k (Nat.lt_of_lt_of_le hk hb1.size) hkg, hb1.block k hk]
theorem rdigest_nil (w : World) :
    Calls Tryz.prog 22 #[.pointer none] w fun e w' => e = .returned (.agg (bc (List.replicate 32 0))) ∧ Below w.heap.size w w' := by
  refine (rdigest_of _ [] (by simp) (fun w1 w2 => w2 = w1) w (fun w1 hb => take_nil 32 (by decide) w1) (fun w1 w2 hp k o hk ho => by rw [hp]; exact ho)).mono ?_
  rintro e w' ⟨rfl, w1, w2, hb1, rfl, hb3⟩
  exact ⟨rfl, hb1.trans hb3⟩
end Go.Proofs.YtocibklkpnblgaaGreatDoor

namespace Go.Proofs.YtocibklkpnblgaaGreatDoor
open Go.RowKit
set_option linter.unusedSimpArgs false
set_option linter.unusedVariables false

theorem repl_getD (n j : Nat) (h : j < n) : (List.replicate n (0 : UInt8)).getD j 0 = 0 := by
  rw [List.getD_eq_getElem?_getD, List.getElem?_replicate, if_pos h]; rfl
/-- A new list of digests, all noughts. -/
theorem make_digests (n : Nat) (h : n ≤ 4294967296) (w : World) : (Instr.makeSlice 25 (.int .i64 (n : Int)) (.int .i64 (n : Int))).run Tryz.prog w = .ok (.slice (some ⟨w.heap.size, 0, none⟩) n n) (w.alloc (.cells (bc (List.replicate (32 * n) 0)) 24)) := by
  obtain ⟨i, hi⟩ : ∃ i, Tryz.prog.info? 24 = some i := by
    cases hq : Tryz.prog.info? 24 with
    | none => exact absurd hq (by rw [show Tryz.prog.info? 24 = some ((Tryz.prog.info? 24).getD default) by kernel_rfl]; simp)
    | some i => exact ⟨i, rfl⟩
  have e : (Tryz.prog.info? 24).map (fun i => (i.zero, i.size, i.bytes)) = some (some (.agg (bc (List.replicate 32 0))), 32, 32) := by kernel_rfl
  rw [hi] at e
  simp only [Option.map_some, Option.some.injEq, Prod.mk.injEq] at e
  obtain ⟨e1, e2, e3⟩ := e
  have := run_make (P := Tryz.prog) w 25 24 i (.agg (bc (List.replicate 32 0))) Tryz.underlying25 hi e1 .i64 .i64 n n (by omega) (by omega) (by rw [e3]; omega) (by omega)
  rw [this, e2]
  simp only [Int.toNat_natCast]
  rw [show (Value.agg (bc (List.replicate 32 0))).cells = bc (List.replicate 32 0) from rfl]
  have em : madeCells (bc (List.replicate 32 0)) (n * 32) = bc (List.replicate (32 * n) 0) := by
    apply Array.ext
    · simp [size_madeCells]; omega
    · intro j h1 h2
      have hz : ∀ r, r < 32 → (bc (List.replicate 32 0))[r]! = Value.int .u8 0 := fun r hr => by
        have hb := bc_at (List.replicate 32 0) r (by simpa using hr)
        rw [getElem!_def, hb, repl_getD 32 r hr]; rfl
      have h2' : j < 32 * n := by simpa using h2
      have hb2 := bc_at (List.replicate (32 * n) 0) j (by simpa using h2')
      have e2 : (bc (List.replicate (32 * n) 0))[j] = Value.int .u8 0 := by
        rw [Array.getElem?_eq_getElem h2] at hb2
        rw [Option.some.inj hb2, repl_getD (32 * n) j h2']; rfl
      rw [e2]
      simp only [madeCells, Array.getElem_map, Array.getElem_range]
      exact hz _ (by rw [bc_size, List.length_replicate]; omega)
  rw [em]

end Go.Proofs.YtocibklkpnblgaaGreatDoor

namespace Go.Proofs.YtocibklkpnblgaaGreatDoor
open Go.RowKit
set_option linter.unusedSimpArgs false
set_option linter.unusedVariables false

theorem splice_list (l : List UInt8) (s j k : Nat) (hl : l.length = 32 * k) (hs : s = 32 * j) (hj : j < k) :
    (l.take (32 * j) ++ List.replicate (32 * (k - j)) 0).take (j * 32) ++ (l.drop s).take 32 ++ (l.take (32 * j) ++ List.replicate (32 * (k - j)) 0).drop (j * 32 + 32) = l.take (32 * (j + 1)) ++ List.replicate (32 * (k - (j + 1))) 0 := by
  have h1 : (l.take (32 * j)).length = 32 * j := by rw [List.length_take]; omega
  have e1 : (l.take (32 * j) ++ List.replicate (32 * (k - j)) 0).take (j * 32) = l.take (32 * j) := by
    rw [List.take_append_of_le_length (by omega), List.take_of_length_le (by omega)]
  have e2 : (l.take (32 * j) ++ List.replicate (32 * (k - j)) (0 : UInt8)).drop (j * 32 + 32) = List.replicate (32 * (k - (j + 1))) 0 := by
    rw [List.drop_append, h1, List.drop_of_length_le (by omega), List.drop_replicate, List.nil_append]
    congr 1; omega
  rw [e1, e2, hs, show 32 * (j + 1) = 32 * j + 32 by omega, List.take_add]
set_option maxHeartbeats 1000000 in
set_option maxRecDepth 100000 in
theorem rdigests_of (p : Value) (most : Int) (m k : Nat) (hm : m < 4294967296) (l : List UInt8) (hl : l.length = 32 * k) (hk : k ≤ m) (R1 R2 : World → Prop) (w : World)
    (h1 : Calls Tryz.prog 65 #[p, .int .i64 most] w fun e w1 => e = .returned (.int .i64 (m : Int)) ∧ R1 w1)
    (h2 : ∀ w1, R1 w1 → Calls Tryz.prog 43 #[p, .int .i64 ((32 * m : Nat) : Int)] w1 fun e w2 => e = .returned (.string (str l)) ∧ R2 w2) :
    Calls Tryz.prog 45 #[p, .int .i64 most] w fun e w' => ∃ w2, e = .returned (.slice (some ⟨w2.heap.size, 0, none⟩) k k) ∧ R2 w2 ∧ Below w2.heap.size w2 w' ∧ w'.heap[w2.heap.size]? = some (.cells (bc l) 24 (0, 0)) := by
  have H1 := hide h1
  have H2 := hide h2
  have mk := make_digests k (by omega)
  have em : (32 : Int) * (m : Int) = ((32 * m : Nat) : Int) := by omega
  generalize hM : 32 * m = M at *
  have hMb : M < 137438953472 := by omega
  clear h1 h2 hM
  go_enter Tryz.func45, Tryz.ntmps45
  go_wp2_with fail
  refine (unhide H1).mono ?_
  rintro e w1 ⟨rfl, hr1⟩
  go_wp2_with fail
  refine (unhide H2 _ hr1).mono ?_
  rintro e w2 ⟨rfl, hr2⟩
  have eq : (l.length : Int) / 32 = (k : Int) := by omega
  have Hl := hide hl
  clear hl em
  go_wp2
  go_loopw [20] (fun i wr => ∃ j : Nat, j ≤ k ∧ i = .int .i64 (j : Int) ∧ Below w2.heap.size w2 wr ∧ wr.heap[w2.heap.size]? = some (.cells (bc (l.take (32 * j) ++ List.replicate (32 * (k - j)) 0)) 24 (0, 0))) (fun i _ => k - (intOf i).toNat)
  case atStart =>
    refine ⟨0, by omega, rfl, (Below.refl _ _).alloc (Nat.le_refl _) _, ?_⟩
    rw [al1]; simp
  case round =>
    obtain ⟨j, hj, rfl, hb, q⟩ := hrel
    by_cases hlt : j < k
    · have hd : decide (j < k) = true := by simpa using hlt
      have b1 : (j : Int) < (k : Int) := by omega
      have hll := unhide Hl
      have ed := drop_str l (32 * j) _ rfl
      obtain ⟨s, hs, es⟩ : ∃ s : Nat, Hid (32 * j = s) ∧ IntKind.i64.wrap ((32 : Int) * (j : Int)) = (s : Int) := ⟨_, rfl, by rw [wi64 _ (by omega) (by omega)]; omega⟩
      have b2 : (s : Int) ≤ (l.length : Int) := by have := unhide hs; omega
      have b3 : s + 32 ≤ l.length := by have := unhide hs; omega
      rw [unhide hs] at ed
      clear hll mk
      go_wp2
      refine wp_region_still_tail 8 mixed (by kernel_rfl) ?_
      simp only [List.take_succ_cons, List.take_zero, List.drop_succ_cons, List.drop_zero]
      iterate 8 still_step
      refine wpStill_nil ?_
      show wpList _ _ _ _ _ wr.drew
      have hcl : (l.take (32 * j) ++ List.replicate (32 * (k - j)) 0).length = l.length := by
        have := unhide Hl
        rw [List.length_append, List.length_take, List.length_replicate]; omega
      refine wpList_copy_str rfl (.tmp 26) (.tmp 30) 82 9 rfl 5 Tryz.underlying82 (by kernel_rfl) w2.heap.size (j * 32) 32 32 rfl (l.drop s) rfl (l.take (32 * j) ++ List.replicate (32 * (k - j)) 0) 24 q 32 (by show _ = min _ _; rw [List.length_drop]; omega) (by rw [hcl]; have := unhide hs; omega) ?_
      rw [splice_list l s j k (unhide Hl) (unhide hs).symm hlt]
      have hb3 : Below w2.heap.size w2 (wr.drew.setRow w2.heap.size (bc (l.take (32 * (j + 1)) ++ List.replicate (32 * (k - (j + 1))) 0))) := below_setRow hb.drew (Nat.le_refl _) _
      have q3 := setRow_heap wr.drew w2.heap.size _ (bc (l.take (32 * (j + 1)) ++ List.replicate (32 * (k - (j + 1))) 0)) _ _ q
      generalize wr.drew.setRow w2.heap.size (bc (l.take (32 * (j + 1)) ++ List.replicate (32 * (k - (j + 1))) 0)) = w3 at *
      have Q3 := hide q3
      clear hcl q q3 ed b2 b3
      go_wp2
      go_roundw
      case rel => exact ⟨j + 1, by omega, by go_num, hb3, unhide Q3⟩
      case measure => simp [intOf]; omega
    · have hd : decide (j < k) = false := by simpa using hlt
      obtain rfl : j = k := by omega
      have q' : wr.heap[w2.heap.size]? = some (.cells (bc l) 24 (0, 0)) := by
        rw [q, ← unhide Hl, List.take_length]; simp
      have Q' := hide q'
      clear q q' mk
      go_wp2
      go_ret
      exact ⟨w2, rfl, hr2, hb, unhide Q'⟩
end Go.Proofs.YtocibklkpnblgaaGreatDoor
