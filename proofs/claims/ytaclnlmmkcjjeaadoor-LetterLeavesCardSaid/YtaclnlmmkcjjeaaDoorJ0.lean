/-
  WORDS OF 32 BITS AS BitVec 32, IN THE WALK'S SPELLING. Plain lemmas: what the walk writes for Go's operators on uint32 (over Int), said of BitVec's own operations. No program is named here.
-/
/-
  A Go STRING AS A LIST OF BYTES. Plain definitions and lemmas.
-/
/-
  SMALL LAWS OF OUR OWN, OVER WHATEVER PROGRAM: an element of an array by value; a copy into a row that is known whole, the world behind it a letter.
-/
/-
  BYTES AS CELLS OF MEMORY. Plain definitions and lemmas; a new row of noughts.
-/
/-
  WHAT wire's number, Byte, Word, Long, Text RETURN: a number in so many bytes, the highest first.
-/
/-
  WHAT A READER's SMALL CALLS DO: Left, Fail, failed, End, take; a reader as a cell of memory; what else lies there stays.
-/
/-
  BYTES IN MEMORY FROM A PLACE ON; '[]byte(s)' UNDER A NAME OF ITS OWN: the world behind it, its capacity, and what is known of them.
-/
/-
  WHAT A READER's number, Byte, Word, Long ANSWER.
-/
/-
  'copy(b, s)' OF A TEXT INTO A ROW OF BYTES: as much as there is room for. As one step of a region that draws its order. Over whatever program.
-/
/-
  WHAT A READER's Digest, Digests, Sig ANSWER.
-/
/-
  A NEW LIST OF DIGESTS, ALL NOUGHTS.
-/
/-
  WHAT A READER's Digests ANSWERS: the digests' bytes in a new row.
-/
/-
  WHAT A READER's Digests AND Sig ANSWER.
-/
/-
  WHAT A READER's Sig ANSWERS.
-/
/-
  WHAT wire's Byte, Word, Long, Text RETURN.
-/
/-
  WHAT wire's Digest RETURNS.
-/
/-
  THE LIBRARY'S CONTRACTS THAT THIS SEAT'S PROOFS USE, AT ITS OWN NUMBERS: strings.Builder, strings.Clone.
-/
/-
  THE LIBRARY'S CONTRACT OF strings.Builder's WriteString AT THIS SEAT'S NUMBERS; a builder behind calls that leave it.
-/
/-
  THE LIBRARY'S CONTRACTS OF strings.Builder AT THIS SEAT'S NUMBERS: Grow of a new one (WriteString: ShelfW; String: ShelfB).
-/
/-
  WHAT wire's Digest AND Digests RETURN.
-/
/-
  A REGION THAT DRAWS ITS ORDER: quiet operations first (reads; calls that lay memory and turn none), then a tail whose order is forced (a store): one walk in the text's order, the worlds of the quiet part a class. Over whatever program.
-/
/-
  WHAT wire's Sig RETURNS.
-/
/-
  WHAT IS READ WOULD BE WRITTEN SO; WHAT IS WRITTEN IS READ AS IT WAS: the lists alone.
-/
/-
  WHAT IS WRITTEN IS READ AS IT WAS: the lists alone.
-/
import Derived.WalkKit
import Derived.Lib.Strings
import Derived.WalkSmall
import Derived.Laws.CopyOwn
import Derived.ChangeKeysEq
import Derived.Test.YtaclnlmmkcjjeaaDoorProg
import Derived.Laws.MakeOwn
import Derived.Lib.UnsafeStr
import Derived.Laws.IdiomStrings
import Derived.Laws.CopyRow
import Derived.Lib.BufferWrite
import Derived.Deep.RegionLaw
import Derived.Deep.RegionHeld3
import Derived.Deep.DeepCutAuto
import Derived.StillTailTactics
import Derived.Deep.MidRow
import Derived.Shelf.Strings.BuilderK
import Derived.Shelf.Strings.BuilderRune
import Derived.Shelf.Strconv.Clone
import Derived.Shelf.Strings.Builder2
import Derived.Deep.Quiet
import Derived.StillTail
import Derived.Below
import Derived.Lib.QuietBelow
import Derived.Deep.QuietTactic
import Derived.BigQuiet
namespace Go.Proofs.YtaclnlmmkcjjeaaDoor
open Go.RowKit

theorem hide {p : Prop} (h : p) : Hid p := h
theorem unhide {p : Prop} (h : Hid p) : p := h
theorem wi64 (a : Int) (h : -9223372036854775808 ≤ a) (h' : a ≤ 9223372036854775807) : IntKind.i64.wrap a = a := by
  rw [IntKind.wrap_i64]; omega
theorem wu64 (a : Int) (h : 0 ≤ a) (h' : a ≤ 18446744073709551615) : IntKind.u64.wrap a = a := by
  rw [IntKind.wrap_u64]; omega
theorem lt32 (x : BitVec 32) : x.toNat < 4294967296 := x.isLt
theorem b_and (x y : BitVec 32) : bits .and .u32 (x.toNat : Int) (y.toNat : Int) = ((x &&& y).toNat : Int) := by
  rw [u32_and_nat _ _ (lt32 x) (lt32 y)]; simp
theorem b_or (x y : BitVec 32) : bits .or .u32 (x.toNat : Int) (y.toNat : Int) = ((x ||| y).toNat : Int) := by
  rw [u32_or_nat _ _ (lt32 x) (lt32 y)]; simp
theorem b_xor (x y : BitVec 32) : bits .xor .u32 (x.toNat : Int) (y.toNat : Int) = ((x ^^^ y).toNat : Int) := by
  rw [u32_xor_nat _ _ (lt32 x) (lt32 y)]; simp
theorem b_max : IntKind.u32.max = ((BitVec.allOnes 32).toNat : Int) := by decide
theorem b_not (x : BitVec 32) : bits .xor .u32 IntKind.u32.max (x.toNat : Int) = ((~~~x).toNat : Int) := by
  rw [b_max, b_xor]; congr 2
theorem b_add (x y : BitVec 32) : ((x.toNat : Int) + (y.toNat : Int)) % 4294967296 = ((x + y).toNat : Int) := by
  rw [BitVec.toNat_add]; omega
theorem b_wadd (x y : BitVec 32) : IntKind.u32.wrap ((x.toNat : Int) + (y.toNat : Int)) = ((x + y).toNat : Int) := by
  rw [IntKind.wrap_u32', b_add]
/-- A sum of words, under a name of its own: simp does not open it. -/
def addw (x y : BitVec 32) : BitVec 32 := x + y
theorem a_mod (x y : BitVec 32) : ((x.toNat : Int) + (y.toNat : Int)) % 4294967296 = ((addw x y).toNat : Int) := b_add x y
theorem a_wrap (x y : BitVec 32) : IntKind.u32.wrap ((x.toNat : Int) + (y.toNat : Int)) = ((addw x y).toNat : Int) := b_wadd x y
theorem b_shl (x : BitVec 32) (s : Nat) : ((x.toNat : Int) * 2 ^ s) % 4294967296 = ((x <<< s).toNat : Int) := by
  rw [BitVec.toNat_shiftLeft, Nat.shiftLeft_eq]
  have e : (x.toNat : Int) * 2 ^ s = ((x.toNat * 2 ^ s : Nat) : Int) := by simp
  rw [e]; generalize x.toNat * 2 ^ s = m; omega
theorem b_shr (x : BitVec 32) (s : Nat) : (x.toNat : Int) / 2 ^ s = ((x >>> s).toNat : Int) := by
  rw [BitVec.toNat_ushiftRight, Nat.shiftRight_eq_div_pow]; push_cast; rfl
/-- The number that Go's rotation takes of a negative count. -/
theorem b_turns : ∀ n : Nat, n < 32 → 0 < n → bits BinOp.and IntKind.u64 (IntKind.u64.wrap (-(n : Int))) 31 = ((32 - n : Nat) : Int) := by decide +kernel

end Go.Proofs.YtaclnlmmkcjjeaaDoor

namespace Go.Proofs.YtaclnlmmkcjjeaaDoor
open Go.RowKit
set_option linter.unusedSimpArgs false

/-- A text's bytes as a Go string. -/
def str (l : List UInt8) : ByteArray := ⟨l.toArray⟩
theorem str_list (s : ByteArray) : str s.data.toList = s := by simp [str]
@[simp] theorem str_toList (l : List UInt8) : (str l).data.toList = l := by simp [str]
@[simp] theorem str_size (l : List UInt8) : (str l).size = l.length := by simp [str, ByteArray.size]
theorem size_list (s : ByteArray) : s.data.toList.length = s.size := by rw [Array.length_toList]; rfl
theorem str_inj {l m : List UInt8} (h : str l = str m) : l = m := by
  have := congrArg (fun s : ByteArray => s.data.toList) h
  simpa using this

theorem take_str (l : List UInt8) (n : Nat) : (str l).extract 0 n = str (l.take n) := by
  apply ByteArray.ext; simp [str]
theorem drop_str (l : List UInt8) (n m : Nat) (h : m = l.length) : (str l).extract n m = str (l.drop n) := by
  subst h; apply ByteArray.ext; simp [str]; exact List.take_of_length_le (by simp)
theorem append_str (l m : List UInt8) : str l ++ str m = str (l ++ m) := by
  apply ByteArray.ext; simp [str]

theorem byte_at (s : ByteArray) (k : Nat) (h : k < s.size) : s[k] = s.data.toList.getD k 0 := by
  have h' : k < s.data.size := h
  have e : s.data.toList[k]? = some s.data[k] := by simp
  rw [List.getD_eq_getElem?_getD, e]; rfl

end Go.Proofs.YtaclnlmmkcjjeaaDoor

namespace Go.Proofs.YtaclnlmmkcjjeaaDoor
open Go Go.RowKit

/-- 'a[i]' of an array by value whose elements take one cell. -/
theorem run_index_row {P : Program} (t e : TypeId) (n : Nat) (cs : Array Value) (k : Nat) (v : Value) (hu : P.underlying t = some (.array n e)) (he : P.plainKey e = true) (hs : (P.info? e).map (·.size) = some 1)
    (hk : k < n) (hv : cs[k]? = some v) (w : World) : (Instr.index t (.agg cs) (.int .i64 (k : Int))).run P w = .ok v w := by
  cases hq : P.info? e with
  | none => simp [hq] at hs
  | some i =>
    have hi : i.size = 1 := by simpa [hq] using hs
    have hp := run_part_plain (w := w) he (xs := cs) (off := k) hv
    simp [Instr.index, asIntOf, run_underlying hu, hk, sizeOf, typeInfo, hq, hi, hp]

/-- A copy into a row known whole: the world behind it is a letter of which all is known. -/
theorem wpList_copy_abs {P : Program} {w : World} {ops : Array Oper} {rest : List Oper} {o : Oper} {a : Act} {Q : Exit → Act → World → Prop} (hgd : o.guard = none) (d s : Operand) (dT sT : TypeId)
    (ho : o.op = .call { callee := .builtin .copy, args := #[d, s], argTypes := #[dT, sT] }) (elem : TypeId) (hu : P.underlying dT = some (.slice elem)) (hsz : (P.info? elem).map (·.size) = some 1)
    (g off dLen dCap : Nat) (ad : Addr) (sLen sCap : Nat) (hd : a.eval d = .slice (some ⟨g, off, none⟩) dLen dCap) (hs : a.eval s = .slice (some ad) sLen sCap)
    (cur : Array Value) (t : TypeId) (hg : w.heap[g]? = some (.cells cur t (0, 0))) (cs : List Value) (hn : cs.length = Nat.min sLen dLen)
    (hsrc : ∀ j v, cs[j]? = some v → w.cell? (ad.add j) = some v) (hfit : off + cs.length ≤ cur.size) (h1 : ∀ v ∈ cs, v.oneCell' = true)
    (new : Array Value) (hnew : (cur.toList.take off ++ (cs ++ cur.toList.drop (off + cs.length))).toArray = new)
    (h : ∀ w', w'.heap[g]? = some (.cells new t (0, 0)) → (∀ k, k ≠ g → w'.heap[k]? = w.heap[k]?) → w'.heap.size = w.heap.size → Below g w w' → wpList P ops Q rest (a.put o.dst (goInt cs.length)) w') :
    wpList P ops Q (o :: rest) a w := by
  refine wpList_copy_own hgd d s dT sT ho elem hu hsz g off dLen dCap ad sLen sCap hd hs cur t hg cs hn hsrc hfit h1 ?_
  rw [hnew]
  exact h _ (setRow_heap w g _ _ t _ hg) (fun k hk => setRow_other w g k _ hk) (setRow_size w g _) (below_setRow (Below.refl _ _) (Nat.le_refl _) _)

theorem src_of_row (w : World) (g : Nat) (t : TypeId) (fr : Nat × Nat) (cur : Array Value) (hg : w.heap[g]? = some (.cells cur t fr)) (cs : List Value) (hp : cs <+: cur.toList) (j : Nat) (v : Value) (hv : cs[j]? = some v) :
    w.cell? ((⟨g, 0, none⟩ : Addr).add j) = some v := by
  have hadd : (⟨g, 0, none⟩ : Addr).add j = ⟨g, j, none⟩ := by unfold Addr.add; split <;> simp_all
  rw [hadd, cell_of_row w g j cur t fr hg]
  obtain ⟨r, hr⟩ := hp
  have : cur.toList[j]? = some v := by
    rw [← hr, List.getElem?_append_left (List.getElem?_eq_some_iff.1 hv).1]; exact hv
  simpa using this
theorem al1 (w : World) (A : Obj) : (w.alloc A).heap[w.heap.size]? = some A := by show (w.heap.push A)[w.heap.size]? = _; simp
theorem al2 (w : World) (A B : Obj) : ((w.alloc A).alloc B).heap[w.heap.size]? = some A ∧ ((w.alloc A).alloc B).heap[w.heap.size + 1]? = some B := by
  refine ⟨?_, ?_⟩
  · rw [Below.heap_alloc _ _ _ (by simp), al1]
  · have := al1 (w.alloc A) B; rwa [World.size_alloc] at this
theorem al3 (w : World) (A B C : Obj) : (((w.alloc A).alloc B).alloc C).heap[w.heap.size]? = some A ∧ (((w.alloc A).alloc B).alloc C).heap[w.heap.size + 1]? = some B ∧ (((w.alloc A).alloc B).alloc C).heap[w.heap.size + 1 + 1]? = some C := by
  refine ⟨?_, ?_, ?_⟩
  · rw [Below.heap_alloc _ _ _ (by simp; omega), (al2 w A B).1]
  · rw [Below.heap_alloc _ _ _ (by simp), (al2 w A B).2]
  · have := al1 ((w.alloc A).alloc B) C; rwa [World.size_alloc, World.size_alloc] at this
theorem bel2 (w : World) (A B : Obj) : Below w.heap.size w ((w.alloc A).alloc B) := ((Below.refl _ _).alloc (Nat.le_refl _) _).alloc (by simp) _
theorem bel3 (w : World) (A B C : Obj) : Below w.heap.size w (((w.alloc A).alloc B).alloc C) := (bel2 w A B).alloc (by simp; omega) _
/-- Behind a call that kept all blocks: what lay there lies there. -/
theorem Below.at {B : Nat} {w w' : World} (h : Below B w w') {k : Nat} {o : Option Obj} (hk : k < B) (ho : w.heap[k]? = o) : w'.heap[k]? = o := (h.block k hk).trans ho

theorem bcell {W w1 : World} (hb : Below W.heap.size W w1) : (∀ b o, b < W.heap.size → w1.cell? ⟨b, o, none⟩ = W.cell? ⟨b, o, none⟩) ∧ (∀ b o, b < W.heap.size → w1.frozen? ⟨b, o, none⟩ = W.frozen? ⟨b, o, none⟩) :=
  ⟨fun b o h => hb.cell (p := ⟨b, o, none⟩) h, fun b o h => hb.frozen (p := ⟨b, o, none⟩) h⟩
/-- A block that was laid ahead of a call, behind it. -/
theorem alloc_kept {w w' : World} {c : Array Value} {t : TypeId} (hb : Below (w.alloc (.cells c t)).heap.size (w.alloc (.cells c t)) w') :
    (∀ o, w'.cell? ⟨w.heap.size, o, none⟩ = c[o]?) ∧ (∀ o, w'.frozen? ⟨w.heap.size, o, none⟩ = false) ∧ w.heap.size < w'.heap.size ∧ Hid (w'.heap[w.heap.size]? = some (.cells c t (0, 0))) := by
  have hz := hb.size
  rw [World.size_alloc] at hz
  refine ⟨fun o => ?_, fun o => ?_, by omega, (hb.block _ (by simp)).trans (al1 _ _)⟩
  · rw [hb.cell (p := ⟨w.heap.size, o, none⟩) (by simp)]; simp
  · rw [hb.frozen (p := ⟨w.heap.size, o, none⟩) (by simp)]; simp
theorem alloc_kept_drew {w w' : World} {c : Array Value} {t : TypeId} (hb : Below (w.alloc (.cells c t)).drew.heap.size (w.alloc (.cells c t)).drew w') :
    (∀ o, w'.cell? ⟨w.heap.size, o, none⟩ = c[o]?) ∧ (∀ o, w'.frozen? ⟨w.heap.size, o, none⟩ = false) ∧ w.heap.size < w'.heap.size ∧ Hid (w'.heap[w.heap.size]? = some (.cells c t (0, 0))) :=
  alloc_kept (t := t) ⟨hb.os, hb.tape, hb.output, hb.size, hb.block⟩
theorem set8 (w : World) (g : Nat) (t : TypeId) (z0 z1 z2 z3 z4 z5 z6 z7 v0 v1 v2 v3 v4 v5 v6 v7 : Value) (hg : w.heap[g]? = some (.cells #[z0, z1, z2, z3, z4, z5, z6, z7] t (0, 0))) : ((((((((w.setCell ⟨g, 0, none⟩ v0).setCell ⟨g, 1, none⟩ v1).setCell ⟨g, 2, none⟩ v2).setCell ⟨g, 3, none⟩ v3).setCell ⟨g, 4, none⟩ v4).setCell ⟨g, 5, none⟩ v5).setCell ⟨g, 6, none⟩ v6).setCell ⟨g, 7, none⟩ v7).heap[g]? = some (.cells #[v0, v1, v2, v3, v4, v5, v6, v7] t (0, 0)) := by
  have h0 : (w.setCell ⟨g, 0, none⟩ v0).heap[g]? = some (.cells #[v0, z1, z2, z3, z4, z5, z6, z7] t (0, 0)) := heap_setCell_same _ g 0 _ t v0 hg
  have h1 : ((w.setCell ⟨g, 0, none⟩ v0).setCell ⟨g, 1, none⟩ v1).heap[g]? = some (.cells #[v0, v1, z2, z3, z4, z5, z6, z7] t (0, 0)) := heap_setCell_same _ g 1 _ t v1 h0
  have h2 : (((w.setCell ⟨g, 0, none⟩ v0).setCell ⟨g, 1, none⟩ v1).setCell ⟨g, 2, none⟩ v2).heap[g]? = some (.cells #[v0, v1, v2, z3, z4, z5, z6, z7] t (0, 0)) := heap_setCell_same _ g 2 _ t v2 h1
  have h3 : ((((w.setCell ⟨g, 0, none⟩ v0).setCell ⟨g, 1, none⟩ v1).setCell ⟨g, 2, none⟩ v2).setCell ⟨g, 3, none⟩ v3).heap[g]? = some (.cells #[v0, v1, v2, v3, z4, z5, z6, z7] t (0, 0)) := heap_setCell_same _ g 3 _ t v3 h2
  have h4 : (((((w.setCell ⟨g, 0, none⟩ v0).setCell ⟨g, 1, none⟩ v1).setCell ⟨g, 2, none⟩ v2).setCell ⟨g, 3, none⟩ v3).setCell ⟨g, 4, none⟩ v4).heap[g]? = some (.cells #[v0, v1, v2, v3, v4, z5, z6, z7] t (0, 0)) := heap_setCell_same _ g 4 _ t v4 h3
  have h5 : ((((((w.setCell ⟨g, 0, none⟩ v0).setCell ⟨g, 1, none⟩ v1).setCell ⟨g, 2, none⟩ v2).setCell ⟨g, 3, none⟩ v3).setCell ⟨g, 4, none⟩ v4).setCell ⟨g, 5, none⟩ v5).heap[g]? = some (.cells #[v0, v1, v2, v3, v4, v5, z6, z7] t (0, 0)) := heap_setCell_same _ g 5 _ t v5 h4
  have h6 : (((((((w.setCell ⟨g, 0, none⟩ v0).setCell ⟨g, 1, none⟩ v1).setCell ⟨g, 2, none⟩ v2).setCell ⟨g, 3, none⟩ v3).setCell ⟨g, 4, none⟩ v4).setCell ⟨g, 5, none⟩ v5).setCell ⟨g, 6, none⟩ v6).heap[g]? = some (.cells #[v0, v1, v2, v3, v4, v5, v6, z7] t (0, 0)) := heap_setCell_same _ g 6 _ t v6 h5
  have h7 : ((((((((w.setCell ⟨g, 0, none⟩ v0).setCell ⟨g, 1, none⟩ v1).setCell ⟨g, 2, none⟩ v2).setCell ⟨g, 3, none⟩ v3).setCell ⟨g, 4, none⟩ v4).setCell ⟨g, 5, none⟩ v5).setCell ⟨g, 6, none⟩ v6).setCell ⟨g, 7, none⟩ v7).heap[g]? = some (.cells #[v0, v1, v2, v3, v4, v5, v6, v7] t (0, 0)) := heap_setCell_same _ g 7 _ t v7 h6
  exact h7
/-- A row of memory and a slot as the two results. -/
theorem results_row_tmp {P : Program} {fn : Func} {p u : Tmp} {ty : TypeId} (h : fn.results = #[.cell p ty, .tmp u]) (tmps : Array Value) (w : World) (g : Nat) (t : TypeId) (cs : Array Value) (fr : Nat × Nat) (d : TypeDesc)
    (hp : tmps.getD p undef = .pointer (some ⟨g, 0, none⟩)) (hg : w.heap[g]? = some (.cells cs t fr))
    (hu : P.underlying ty = some d) (hd : (match d with | .struct _ | .array _ _ => true | _ => false) = true) (hi : (P.info? ty).map (·.size) = some cs.size) :
    (results fn tmps).run P w = .ok (.tuple #[.agg cs, tmps.getD u undef]) w := by
  rw [results_cell_tmp h, hp]
  simp only [asAddr, Sem.run_pure, Result.andThen_ok, run_loadVar_row w g t ty cs fr d hg hu hd hi]

end Go.Proofs.YtaclnlmmkcjjeaaDoor

namespace Go.Proofs.YtaclnlmmkcjjeaaDoor
open Go.RowKit
set_option linter.unusedSimpArgs false

theorem mixed : Tryd.prog.follows .mixedOrders = true := by kernel_rfl
/-- Bytes as cells. -/
def bc (l : List UInt8) : Array Value := (Lib.byteCells l).toArray
@[simp] theorem bc_size (l : List UInt8) : (bc l).size = l.length := by simp [bc, Lib.byteCells]
theorem bc_at (l : List UInt8) (j : Nat) (h : j < l.length) : (bc l)[j]? = some (.int .u8 ((l.getD j 0).toNat : Int)) := by
  simp [bc, Lib.byteCells, h]
theorem bc_set (l m : List UInt8) (z x : UInt8) (i : Nat) (hi : i = l.length) : (bc (l ++ z :: m)).setIfInBounds i (.int .u8 (x.toNat : Int)) = bc (l ++ [x] ++ m) := by
  subst hi
  simp only [bc, Lib.byteCells, List.map_append, List.map_cons, List.setIfInBounds_toArray, List.append_assoc, List.cons_append, List.nil_append]
  congr 1
  rw [List.set_append_right _ _ (by simp)]
  simp
theorem bc_oneCell (l : List UInt8) : (bc l).all (·.oneCell') = true := by
  simp [bc, Lib.byteCells, Value.oneCell']
theorem made_bytes (n : Nat) : madeCells #[Value.int .u8 0] n = bc (List.replicate n 0) := by
  apply Array.ext
  · simp [size_madeCells]
  · intro i h1 h2
    simp [madeCells, bc, Lib.byteCells]
    rw [Nat.mod_one]; rfl

theorem byte_mod (m s : Nat) : (m : Int) / 2 ^ s % 256 = ((UInt8.ofNat (m / 2 ^ s)).toNat : Int) := by
  have e : (m : Int) / 2 ^ s = ((m / 2 ^ s : Nat) : Int) := by rw [Int.natCast_ediv, Int.natCast_pow]; rfl
  rw [e, UInt8.toNat_ofNat']
  generalize m / 2 ^ s = q
  show (q : Int) % 256 = ((q % 256 : Nat) : Int)
  omega
theorem take_snoc' {α : Type} (l : List α) (k : Nat) (d : α) (h : k < l.length) : l.take (k + 1) = l.take k ++ [l.getD k d] := by
  rw [List.take_succ_eq_append_getElem h]; simp [h]

theorem make_bytes (n : Nat) (h : n ≤ 140737488355328) (w : World) : (Instr.makeSlice 67 (.int .i64 (n : Int)) (.int .i64 (n : Int))).run Tryd.prog w = .ok (.slice (some ⟨w.heap.size, 0, none⟩) n n) (w.alloc (.cells (bc (List.replicate n 0)) 5)) := by
  obtain ⟨i, hi⟩ : ∃ i, Tryd.prog.info? 5 = some i := by
    cases hq : Tryd.prog.info? 5 with
    | none => exact absurd hq (by rw [show Tryd.prog.info? 5 = some ((Tryd.prog.info? 5).getD default) by kernel_rfl]; simp)
    | some i => exact ⟨i, rfl⟩
  have e : (Tryd.prog.info? 5).map (fun i => (i.zero, i.size, i.bytes)) = some (some (.int .u8 0), 1, 1) := by kernel_rfl
  rw [hi] at e
  simp only [Option.map_some, Option.some.injEq, Prod.mk.injEq] at e
  obtain ⟨e1, e2, e3⟩ := e
  have := run_make (P := Tryd.prog) w 67 5 i (.int .u8 0) Tryd.underlying67 hi e1 .i64 .i64 n n (by omega) (by omega) (by rw [e3]; omega) (by omega)
  rw [this, e2]
  simp only [Int.toNat_natCast, Nat.mul_one]
  rw [show (Value.int IntKind.u8 0).cells = #[Value.int .u8 0] from rfl, made_bytes]

end Go.Proofs.YtaclnlmmkcjjeaaDoor

namespace Go.Proofs.YtaclnlmmkcjjeaaDoor
open Go.RowKit
set_option linter.unusedSimpArgs false
set_option linter.unusedVariables false

/-- A number's lowest bytes, the highest of them first. -/
def pBig (n width : Nat) : List UInt8 := (List.range width).map fun i => UInt8.ofNat (n / 2 ^ (8 * (width - 1 - i)))
theorem pBig_length (n width : Nat) : (pBig n width).length = width := by simp [pBig]
theorem pBig_at (n width i : Nat) (h : i < width) : (pBig n width).getD i 0 = UInt8.ofNat (n / 2 ^ (8 * (width - 1 - i))) := by
  simp [pBig, h]
theorem drop_cons' {α : Type} (l : List α) (k : Nat) (d : α) (h : k < l.length) : l.drop k = l.getD k d :: l.drop (k + 1) := by
  rw [List.drop_eq_getElem_cons h]; simp [h]

set_option maxHeartbeats 400000 in
set_option maxRecDepth 100000 in
theorem number_calls (n width : Nat) (hw : width ≤ 8) (hw1 : 1 ≤ width) (w : World) :
    Calls Tryd.prog 45 #[.int .u64 (n : Int), .int .i64 (width : Int)] w fun e w' => e = .returned (.string (str (pBig n width))) ∧ Below w.heap.size w w' := by
  have mk := make_bytes width (by omega)
  have hlen := pBig_length n width
  have hat := pBig_at n width
  generalize hP : pBig n width = P at *
  have HP := hide hP
  have Hlen := hide hlen
  have Hat := hide hat
  clear hP hlen hat
  go_enter Tryd.func45, Tryd.ntmps45
  go_wp2
  go_loopw [11] (fun i wr => ∃ k : Nat, k ≤ width ∧ i = .int .i64 k ∧ Below w.heap.size w wr ∧ wr.heap[w.heap.size]? = some (.cells (bc (List.replicate (width - k) 0 ++ P.drop (width - k))) 5 (0, 0))) (fun i _ => width - (intOf i).toNat)
  case atStart =>
    refine ⟨0, by omega, rfl, (Below.refl _ _).alloc (Nat.le_refl _) _, ?_⟩
    rw [al1, List.drop_of_length_le (by rw [unhide Hlen]; omega)]; simp
  case round =>
    obtain ⟨k, hk, rfl, hb, q⟩ := hrel
    by_cases hlt : k < width
    · obtain ⟨j, hj, ej⟩ : ∃ j : Nat, Hid (width - 1 - k = j) ∧ (width : Int) - 1 - (k : Int) = (j : Int) := ⟨_, rfl, by omega⟩
      have hjw : j < width := by have := unhide hj; omega
      have hsp : List.replicate (width - k) (0 : UInt8) ++ P.drop (width - k) = List.replicate j 0 ++ 0 :: P.drop (j + 1) := by
        have : width - k = j + 1 := by have := unhide hj; omega
        rw [this, List.replicate_succ']; simp
      rw [hsp] at q
      have hl : (List.replicate j 0 ++ 0 :: P.drop (j + 1) : List UInt8).length = width := by simp [unhide Hlen]; omega
      have c : wr.cell? ⟨w.heap.size, j, none⟩ = some (.int .u8 (((List.replicate j 0 ++ 0 :: P.drop (j + 1) : List UInt8).getD j 0).toNat : Int)) := by
        rw [cell_of_row _ _ _ _ _ _ q]; exact bc_at _ _ (by omega)
      have f : wr.frozen? ⟨w.heap.size, j, none⟩ = false := frozen_of_row _ _ _ _ _ q
      have b1 : (0 : Int) ≤ j ∧ (j : Int) < width := by omega
      obtain ⟨s, hs, es⟩ : ∃ s : Nat, Hid (8 * k = s) ∧ (8 : Int) * (k : Int) = (s : Int) := ⟨_, rfl, by omega⟩
      have hs64 : s ≤ 56 := by have := unhide hs; omega
      have hdk : decide ((k : Int) < (width : Int)) = true := by simp; omega
      generalize hv : (List.replicate j 0 ++ 0 :: P.drop (j + 1) : List UInt8).getD j 0 = v at c
      have Q := hide q
      clear hl hv mk q hsp
      go_wp2
      go_roundw
      case rel =>
        refine ⟨k + 1, by omega, by go_num, hb.setCell (by simp) _, ?_⟩
        rw [byte_mod, ← unhide hs, heap_setCell_same _ _ _ _ _ _ (unhide Q), bc_set _ _ _ _ _ (by simp)]
        have e1 : width - (k + 1) = j := by have := unhide hj; omega
        have e2 := unhide Hat j hjw
        have e3 : width - 1 - j = k := by have := unhide hj; omega
        rw [e3] at e2
        rw [e1, drop_cons' P j 0 (by rw [unhide Hlen]; omega), e2]; simp
      case measure => simp [intOf]; omega
    · have q' : wr.heap[w.heap.size]? = some (.cells (bc P) 5 (0, 0)) := by
        rw [q, show width - k = 0 by omega]; simp
      have hcv := run_convert_bytes_back (P := Tryd.prog) wr 67 9 5 ⟨w.heap.size, 0, none⟩ width P Tryd.underlying67 Tryd.underlying5 Tryd.underlying9 (fun j hj => by
        have hadd : (⟨w.heap.size, 0, none⟩ : Addr).add j = ⟨w.heap.size, j, none⟩ := by unfold Addr.add; split <;> simp_all
        rw [hadd, cell_of_row _ _ _ _ _ _ q', bc_at _ _ hj]; simp [hj])
      rw [unhide Hlen] at hcv
      have hd : decide ((k : Int) < (width : Int)) = false := by simp; omega
      clear q q' mk
      go_wp2
      go_ret
      exact ⟨by rfl, hb⟩
end Go.Proofs.YtaclnlmmkcjjeaaDoor

namespace Go.Proofs.YtaclnlmmkcjjeaaDoor
open Go.RowKit
set_option linter.unusedSimpArgs false
set_option linter.unusedVariables false

/-- All that lay there but one block lies as it lay. -/
structure Turned (g : Nat) (w w' : World) : Prop where
  below : Below g w w'
  kept : ∀ k, k < w.heap.size → k ≠ g → w'.heap[k]? = w.heap[k]?
theorem Turned.refl (g : Nat) (w : World) : Turned g w w := ⟨Below.refl _ _, fun _ _ _ => rfl⟩
theorem Turned.trans {g : Nat} {a b c : World} (h : Turned g a b) (k : Turned g b c) : Turned g a c :=
  ⟨h.below.trans k.below, fun i hi hg => (k.kept i (Nat.lt_of_lt_of_le hi h.below.size) hg).trans (h.kept i hi hg)⟩
theorem Turned.of_below {g : Nat} {w w' : World} (h : Below w.heap.size w w') (hg : g ≤ w.heap.size) : Turned g w w' :=
  ⟨h.mono hg, fun k hk _ => h.block k hk⟩
theorem Turned.setCell {g o : Nat} {w w' : World} (h : Turned g w w') (v : Value) : Turned g w (w'.setCell ⟨g, o, none⟩ v) :=
  ⟨h.below.setCell (by simp) _, fun k hk hg => by rw [heap_setCell_other _ _ _ _ (by show k ≠ g; exact hg)]; exact h.kept k hk hg⟩
theorem Turned.row {g k : Nat} {w w' : World} (h : Turned g w w') {o : Obj} (hg : k ≠ g) (ho : w.heap[k]? = some o) : w'.heap[k]? = some o :=
  (h.kept k (Array.getElem?_eq_some_iff.1 ho).1 hg).trans ho
/-- Behind a reader of the call's own, all that lay ahead of it lies. -/
theorem Turned.under {g B : Nat} {w0 w w' : World} (h : Turned g w w') (h0 : Below B w0 w) (hB : B ≤ g) : Below B w0 w' := h0.trans (h.below.mono hB)

/-- A reader: what is left, what is wrong. -/
structure Rd where
  (rest : List UInt8) (err : Int)
def Rd.cells (r : Rd) : Array Value := #[.string (str r.rest), .int .i64 r.err]
def RdAt (w : World) (g : Nat) (r : Rd) : Prop := w.heap[g]? = some (.cells r.cells 63 (0, 0))
theorem RdAt.lt {w : World} {g : Nat} {r : Rd} (h : RdAt w g r) : g < w.heap.size := (Array.getElem?_eq_some_iff.1 h).1
theorem RdAt.below {w w' : World} {g : Nat} {r : Rd} (h : RdAt w g r) (hb : Below w.heap.size w w') : RdAt w' g r := (hb.block g h.lt).trans h
theorem RdAt.c0 {w : World} {g : Nat} {r : Rd} (h : RdAt w g r) : w.cell? ⟨g, 0, none⟩ = some (.string (str r.rest)) := cell_of_row _ _ _ _ _ _ h
theorem RdAt.c1 {w : World} {g : Nat} {r : Rd} (h : RdAt w g r) : w.cell? ⟨g, 1, none⟩ = some (.int .i64 r.err) := cell_of_row _ _ _ _ _ _ h
theorem RdAt.f0 {w : World} {g : Nat} {r : Rd} (h : RdAt w g r) (o : Nat) : w.frozen? ⟨g, o, none⟩ = false := frozen_of_row _ _ _ _ _ h
theorem RdAt.set1 {w : World} {g : Nat} {r : Rd} (h : RdAt w g r) (e : Int) : RdAt (w.setCell ⟨g, 1, none⟩ (.int .i64 e)) g ⟨r.rest, e⟩ := heap_setCell_same _ _ _ _ _ _ h
theorem RdAt.set0 {w : World} {g : Nat} {r : Rd} (h : RdAt w g r) (l : List UInt8) : RdAt (w.setCell ⟨g, 0, none⟩ (.string (str l))) g ⟨l, r.err⟩ := heap_setCell_same _ _ _ _ _ _ h

def Rd.fail (r : Rd) (e : Int) : Rd := if r.err = 0 then ⟨r.rest, e⟩ else r
/-- A part of so many bytes, and the reader behind it. -/
def Rd.take (r : Rd) (n : Nat) : List UInt8 × Rd :=
  if r.err ≠ 0 then ([], r) else if r.rest.length < n then ([], ⟨r.rest, 3⟩) else (r.rest.take n, ⟨r.rest.drop n, 0⟩)

theorem left_calls (g : Nat) (r : Rd) (w : World) (h : RdAt w g r) :
    Calls Tryd.prog 48 #[.pointer (some ⟨g, 0, none⟩)] w fun e w' => e = .returned (.int .i64 (r.rest.length : Int)) ∧ w' = w := by
  have c0 := h.c0
  clear h
  go_enter Tryd.func48, Tryd.ntmps48
  go_wp2
  go_ret
  exact ⟨rfl, rfl⟩
theorem left_nil (w : World) :
    Calls Tryd.prog 48 #[.pointer none] w fun e w' => e = .returned (.int .i64 0) ∧ w' = w := by
  go_enter Tryd.func48, Tryd.ntmps48
  go_wp2
  go_ret
  exact ⟨rfl, rfl⟩
theorem failed_calls (g : Nat) (r : Rd) (w : World) (h : RdAt w g r) :
    Calls Tryd.prog 50 #[.pointer (some ⟨g, 0, none⟩)] w fun e w' => e = .returned (.bool (r.err != 0)) ∧ w' = w := by
  have c1 := h.c1
  clear h
  go_enter Tryd.func50, Tryd.ntmps50
  go_wp2
  go_ret
  exact ⟨rfl, rfl⟩
theorem failed_nil (w : World) :
    Calls Tryd.prog 50 #[.pointer none] w fun e w' => e = .returned (.bool true) ∧ w' = w := by
  go_enter Tryd.func50, Tryd.ntmps50
  go_wp2
  go_ret
  exact ⟨rfl, rfl⟩
theorem fail_calls (g : Nat) (r : Rd) (k : Int) (w : World) (h : RdAt w g r) :
    Calls Tryd.prog 49 #[.pointer (some ⟨g, 0, none⟩), .int .i64 k] w fun e w' => e = .returned (.tuple #[]) ∧ RdAt w' g (r.fail k) ∧ Turned g w w' := by
  have c1 := h.c1
  have f1 := h.f0 1
  by_cases h0 : r.err = 0
  · have e1 : (r.err == 0) = true := by simpa using h0
    have hr : r.fail k = ⟨r.rest, k⟩ := by rw [Rd.fail, if_pos h0]
    have H := hide h
    rw [hr]
    generalize r.err = re at *
    clear h0 h hr
    go_enter Tryd.func49, Tryd.ntmps49
    go_wp2
    go_end0
    exact ⟨rfl, (unhide H).set1 k, (Turned.refl _ _).setCell _⟩
  · have e1 : (r.err == 0) = false := by simpa using h0
    have hr : r.fail k = r := by rw [Rd.fail, if_neg h0]
    have H := hide h
    rw [hr]
    clear h0 h hr
    go_enter Tryd.func49, Tryd.ntmps49
    go_wp2
    go_end0
    exact ⟨rfl, unhide H, Turned.refl _ _⟩
theorem fail_nil (k : Int) (w : World) :
    Calls Tryd.prog 49 #[.pointer none, .int .i64 k] w fun e w' => e = .returned (.tuple #[]) ∧ w' = w := by
  go_enter Tryd.func49, Tryd.ntmps49
  go_wp2
  go_end0
  exact ⟨rfl, rfl⟩
def Rd.end' (r : Rd) : Int := if r.err ≠ 0 then r.err else if r.rest ≠ [] then 4 else 0
theorem end_nil (w : World) :
    Calls Tryd.prog 21 #[.pointer none] w fun e w' => e = .returned (.int .i64 1) ∧ w' = w := by
  go_enter Tryd.func21, Tryd.ntmps21
  go_wp2
  go_ret
  exact ⟨rfl, rfl⟩
theorem take_nil (n : Nat) (hn : n ≤ 9223372036854775807) (w : World) :
    Calls Tryd.prog 34 #[.pointer none, .int .i64 (n : Int)] w fun e w' => e = .returned (.string (str [])) ∧ w' = w := by
  cases hd : decide (0 < n) with
  | true =>
    go_enter Tryd.func34, Tryd.ntmps34
    go_wp2_with fail
    refine (left_nil _).mono ?_
    rintro e w' ⟨rfl, rfl⟩
    go_wp2_with fail
    refine (fail_nil _ _).mono ?_
    rintro e w' ⟨rfl, rfl⟩
    go_wp2_with fail
    refine (failed_nil _).mono ?_
    rintro e w' ⟨rfl, rfl⟩
    go_wp2
    go_ret
    exact ⟨rfl, rfl⟩
  | false =>
    go_enter Tryd.func34, Tryd.ntmps34
    go_wp2_with fail
    refine (left_nil _).mono ?_
    rintro e w' ⟨rfl, rfl⟩
    go_wp2_with fail
    refine (failed_nil _).mono ?_
    rintro e w' ⟨rfl, rfl⟩
    go_wp2
    go_ret
    exact ⟨rfl, rfl⟩
theorem rdend_calls (g : Nat) (r : Rd) (w : World) (h : RdAt w g r) :
    Calls Tryd.prog 21 #[.pointer (some ⟨g, 0, none⟩)] w fun e w' => e = .returned (.int .i64 r.end') ∧ w' = w := by
  have c0 := h.c0
  have c1 := h.c1
  clear h
  by_cases h0 : r.err = 0
  · have e1 : (r.err != 0) = false := by simpa using h0
    by_cases h1 : r.rest = []
    · have hr : r.end' = 0 := by simp [Rd.end', h0, h1]
      rw [hr]
      rw [h1, show str [] = (⟨#[]⟩ : ByteArray) from rfl] at c0
      generalize r.err = re at *
      clear hr h0 h1
      go_enter Tryd.func21, Tryd.ntmps21
      go_wp2
      go_ret
      exact ⟨rfl, rfl⟩
    · have hr : r.end' = 4 := by simp [Rd.end', h0, h1]
      have hne : (str r.rest).toList.isEmpty = false := by rw [ByteArray.toList_eq, str_toList]; cases hl : r.rest with | nil => exact absurd hl h1 | cons _ _ => rfl
      rw [hr]
      generalize r.err = re at *
      clear hr h0 h1
      go_enter Tryd.func21, Tryd.ntmps21
      go_wp2
      go_ret
      exact ⟨rfl, rfl⟩
  · have e1 : (r.err != 0) = true := by simpa using h0
    have hr : r.end' = r.err := by simp [Rd.end', h0]
    rw [hr]
    clear hr h0
    go_enter Tryd.func21, Tryd.ntmps21
    go_wp2
    go_ret
    exact ⟨rfl, rfl⟩
set_option maxHeartbeats 1000000 in
theorem take_calls (g n : Nat) (hn : n ≤ 4611686018427387904) (r : Rd) (hl : r.rest.length ≤ 4611686018427387904) (w : World) (h : RdAt w g r) :
    Calls Tryd.prog 34 #[.pointer (some ⟨g, 0, none⟩), .int .i64 (n : Int)] w fun e w' => e = .returned (.string (str (r.take n).1)) ∧ RdAt w' g (r.take n).2 ∧ Turned g w w' := by
  by_cases h0 : r.err = 0
  · by_cases h1 : r.rest.length < n
    · have hd : decide (r.rest.length < n) = true := by simp; omega
      have hr : r.take n = ([], ⟨r.rest, 3⟩) := by simp [Rd.take, h0, h1]
      have hf : r.fail 3 = ⟨r.rest, 3⟩ := by rw [Rd.fail, if_pos h0]
      rw [hr]
      have H := hide h
      have Hf := hide hf
      clear hr h0 h1 h hf
      go_enter Tryd.func34, Tryd.ntmps34
      go_wp2_with fail
      refine (left_calls g r _ (unhide H)).mono ?_
      rintro e w' ⟨rfl, rfl⟩
      go_wp2_with fail
      refine (fail_calls g r 3 _ (unhide H)).mono ?_
      rintro e w1 ⟨rfl, h1, t1⟩
      rw [unhide Hf] at h1
      have H1 := hide h1
      clear h1
      go_wp2_with fail
      refine (failed_calls g _ _ (unhide H1)).mono ?_
      rintro e w' ⟨rfl, rfl⟩
      go_wp2
      go_ret
      exact ⟨rfl, unhide H1, t1⟩
    · have hd : decide (r.rest.length < n) = false := by simp; omega
      have hr : r.take n = (r.rest.take n, ⟨r.rest.drop n, 0⟩) := by simp [Rd.take, h0, h1]
      have e0 : (r.err != 0) = false := by simpa using h0
      rw [hr]
      have H := hide h
      have H0 := hide h0
      have c0 := h.c0
      have f0 := h.f0 0
      have es := take_str r.rest n
      have ed := drop_str r.rest n _ rfl
      have b0 : (n : Int) ≤ (r.rest.length : Int) := by omega
      clear hr h0 h1 h
      go_enter Tryd.func34, Tryd.ntmps34
      go_wp2_with fail
      refine (left_calls g r _ (unhide H)).mono ?_
      rintro e w' ⟨rfl, rfl⟩
      go_wp2_with fail
      refine (failed_calls g r _ (unhide H)).mono ?_
      rintro e w' ⟨rfl, rfl⟩
      rw [e0]
      go_wp2
      go_ret
      have h2 := (unhide H).set0 (r.rest.drop n)
      rw [unhide H0] at h2
      exact ⟨rfl, h2, (Turned.refl _ _).setCell _⟩
  · have e0 : (r.err != 0) = true := by simpa using h0
    have hr : r.take n = ([], r) := by simp [Rd.take, h0]
    have hf : r.fail 3 = r := by rw [Rd.fail, if_neg h0]
    rw [hr]
    have H := hide h
    have Hf := hide hf
    clear hr h0 h hf
    cases hd : decide (r.rest.length < n) with
    | true =>
      go_enter Tryd.func34, Tryd.ntmps34
      go_wp2_with fail
      refine (left_calls g r _ (unhide H)).mono ?_
      rintro e w' ⟨rfl, rfl⟩
      go_wp2_with fail
      refine (fail_calls g r 3 _ (unhide H)).mono ?_
      rintro e w1 ⟨rfl, h1, t1⟩
      rw [unhide Hf] at h1
      have H1 := hide h1
      clear h1
      go_wp2_with fail
      refine (failed_calls g _ _ (unhide H1)).mono ?_
      rintro e w' ⟨rfl, rfl⟩
      rw [e0]
      go_wp2
      go_ret
      exact ⟨rfl, unhide H1, t1⟩
    | false =>
      go_enter Tryd.func34, Tryd.ntmps34
      go_wp2_with fail
      refine (left_calls g r _ (unhide H)).mono ?_
      rintro e w' ⟨rfl, rfl⟩
      go_wp2_with fail
      refine (failed_calls g _ _ (unhide H)).mono ?_
      rintro e w' ⟨rfl, rfl⟩
      rw [e0]
      go_wp2
      go_ret
      exact ⟨rfl, unhide H, Turned.refl _ _⟩
end Go.Proofs.YtaclnlmmkcjjeaaDoor

namespace Go.Proofs.YtaclnlmmkcjjeaaDoor
open Go.RowKit
set_option linter.unusedSimpArgs false
set_option linter.unusedVariables false

/-- Bytes lie in memory from a place on. -/
def Bytes (w : World) (g off : Nat) (l : List UInt8) : Prop := ∀ j, j < l.length → w.cell? ⟨g, off + j, none⟩ = some (.int .u8 ((l.getD j 0).toNat : Int))
theorem Bytes.below {B g off : Nat} {l : List UInt8} {w w' : World} (h : Bytes w g off l) (hb : Below B w w') (hg : g < B) : Bytes w' g off l := fun j hj => by
  rw [hb.cell (p := ⟨g, off + j, none⟩) hg]; exact h j hj

theorem Bytes.take {w : World} {g off : Nat} {l : List UInt8} (h : Bytes w g off l) (n : Nat) : Bytes w g off (l.take n) := fun j hj => by
  have hj' : j < n ∧ j < l.length := by simp at hj; omega
  rw [h j hj'.2]
  simp [hj'.1]
theorem Bytes.drop {w : World} {g off : Nat} {l : List UInt8} (h : Bytes w g off l) (n : Nat) : Bytes w g (off + n) (l.drop n) := fun j hj => by
  have hj' : n + j < l.length := by simp at hj; omega
  rw [show off + n + j = off + (n + j) by omega, h _ hj']
  simp
def bcap (w : World) (l : List UInt8) : Nat := grownCap w l.length 0 5
def bworld (w : World) (l : List UInt8) : World := w.drew.alloc (.cells (bytesRow (str l) (bcap w l)) 5 ((bytesRow (str l) (bcap w l)).size, (bytesRow (str l) (bcap w l)).size + 1))
theorem conv_run (l : List UInt8) (w : World) : (convert 9 67 (.string (str l))).run Tryd.prog w = .ok (.slice (some ⟨w.heap.size, 0, none⟩) l.length (bcap w l)) (bworld w l) := by
  have := run_bytes_of_string (P := Tryd.prog) w 9 67 5 (str l) Tryd.underlying9 Tryd.underlying67 Tryd.underlying5
  rw [str_size] at this
  exact this
theorem bworld_size (w : World) (l : List UInt8) : (bworld w l).heap.size = w.heap.size + 1 := by simp [bworld]
theorem bworld_below {B : Nat} {W w : World} (l : List UInt8) (h : Below B W w) (hB : B ≤ w.heap.size) : Below B W (bworld w l) := (h.drew).alloc hB _
theorem bworld_bytes (w : World) (l : List UInt8) : Bytes (bworld w l) w.heap.size 0 l := fun j hj => by
  have h : (bworld w l).heap[w.heap.size]? = some (.cells (bytesRow (str l) (bcap w l)) 5 ((bytesRow (str l) (bcap w l)).size, (bytesRow (str l) (bcap w l)).size + 1)) := al1 w.drew _
  rw [cell_of_row _ _ _ _ _ _ h, Nat.zero_add, bytesRow_at _ _ _ (by simpa [str] using hj)]
  simp [str, hj]
theorem bcap_ge (w : World) (l : List UInt8) : l.length ≤ bcap w l := grownCap_ge _ _ _ _
theorem bcap_le (w : World) (l : List UInt8) (h : l.length ≤ maxLen) : bcap w l ≤ maxLen := grownCap_le_maxLen _ _ _ _ h
theorem bworld_kept {w w' : World} {l : List UInt8} (hb : Below (bworld w l).heap.size (bworld w l) w') : Hid (Bytes w' w.heap.size 0 l) ∧ w.heap.size < w'.heap.size := by
  have hz := hb.size
  have h1 := bworld_size w l
  exact ⟨(bworld_bytes w l).below hb (by omega), by omega⟩
theorem bworld_kept_drew {w w' : World} {l : List UInt8} (hb : Below (bworld w l).drew.heap.size (bworld w l).drew w') : Hid (Bytes w' w.heap.size 0 l) ∧ w.heap.size < w'.heap.size :=
  bworld_kept (l := l) ⟨hb.os, hb.tape, hb.output, hb.size, hb.block⟩
end Go.Proofs.YtaclnlmmkcjjeaaDoor

namespace Go.Proofs.YtaclnlmmkcjjeaaDoor
open Go.RowKit
set_option linter.unusedSimpArgs false
set_option linter.unusedVariables false

/-- The number that bytes are, the highest first. -/
def pNum (l : List UInt8) : Nat := l.foldl (fun n b => n * 256 + b.toNat) 0
theorem pNum_snoc (l : List UInt8) (b : UInt8) : pNum (l ++ [b]) = pNum l * 256 + b.toNat := by simp [pNum]
theorem pNum_lt_from : ∀ (l : List UInt8) (a : Nat), l.foldl (fun n b => n * 256 + b.toNat) a < (a + 1) * 256 ^ l.length
  | [], a => by simp
  | b :: l, a => by
    have h := pNum_lt_from l (a * 256 + b.toNat)
    have hb := b.toNat_lt
    rw [List.foldl_cons, List.length_cons, Nat.pow_succ, Nat.mul_comm (256 ^ l.length) 256, ← Nat.mul_assoc]
    exact Nat.lt_of_lt_of_le h (Nat.mul_le_mul_right _ (by omega))
theorem pNum_lt (l : List UInt8) : pNum l < 256 ^ l.length := by
  have := pNum_lt_from l 0
  rw [Nat.zero_add, Nat.one_mul] at this; exact this
theorem or256 (m b : Nat) (hm : m < 72057594037927936) (hb : b < 256) : bits BinOp.or IntKind.u64 ((m : Int) * 256) (b : Int) = ((m * 256 + b : Nat) : Int) := by
  have e : (m : Int) * 256 = ((m * 256 : Nat) : Int) := by omega
  rw [e, u64_or_nat _ _ (by omega) (by omega), nat_join 8 _ _ (by omega) (by omega)]

set_option maxHeartbeats 400000 in
theorem rnumber_of (p : Value) (n : Nat) (l : List UInt8) (hl : l.length ≤ 8) (R : World → Prop) (w : World)
    (ht : Calls Tryd.prog 34 #[p, .int .i64 (n : Int)] w fun e w1 => e = .returned (.string (str l)) ∧ R w1) :
    Calls Tryd.prog 33 #[p, .int .i64 (n : Int)] w fun e w' => e = .returned (.int .u64 (pNum l : Int)) ∧ ∃ w1, R w1 ∧ Below w1.heap.size w1 w' := by
  have Ht := hide ht
  clear ht
  go_enter Tryd.func33, Tryd.ntmps33
  go_wp2_with fail
  refine (unhide Ht).mono ?_
  rintro e w1 ⟨rfl, hR⟩
  have cv := conv_run l w1
  have hby := bworld_bytes w1 l
  have hbb := bworld_below l (Below.refl w1.heap.size w1) (Nat.le_refl _)
  generalize hW : bworld w1 l = W at *
  have Hby := hide hby
  clear hby hW
  go_wp2
  go_loopw [5, 13] (fun a i wr => ∃ k : Nat, k ≤ l.length ∧ a = .int .u64 (pNum (l.take k) : Int) ∧ i = .int .i64 (k : Int) ∧ wr = W) (fun _ i _ => l.length - (intOf i).toNat)
  case atStart => exact ⟨0, by omega, rfl, rfl, rfl⟩
  case round =>
    obtain ⟨k, hk, rfl, rfl, rfl⟩ := hrel
    by_cases hlt : k < l.length
    · have c := unhide Hby k hlt
      rw [Nat.zero_add] at c
      have hsn := take_snoc' l k 0 hlt
      generalize hb : l.getD k 0 = b at *
      have hpn := pNum_snoc (l.take k) b
      rw [← hsn] at hpn
      have hlt2 := pNum_lt (l.take k)
      have hm : pNum (l.take k) < 72057594037927936 := Nat.lt_of_lt_of_le hlt2 (by
        have : (l.take k).length ≤ 7 := by simp; omega
        calc 256 ^ (l.take k).length ≤ 256 ^ 7 := Nat.pow_le_pow_right (by decide) this
          _ = 72057594037927936 := by decide)
      generalize pNum (l.take k) = m at *
      have hb8 := b.toNat_lt
      have hd : decide (k < l.length) = true := by simpa using hlt
      have b1 : (k : Int) < (l.length : Int) := by omega
      have Hpn := hide hpn
      clear hpn hsn hb hlt2
      go_wp2
      go_roundw
      case rel =>
        refine ⟨k + 1, by omega, ?_, by go_num, trivial⟩
        rw [unhide Hpn]
        rw [or256 m b.toNat hm hb8]
      case measure => simp [intOf]; omega
    · obtain rfl : k = l.length := by omega
      have hd : decide (l.length < l.length) = false := by simp
      rw [List.take_length]
      go_wp2
      go_ret
      exact ⟨rfl, w1, hR, hbb⟩
/-- The number of so many bytes, and the reader behind it. -/
def Rd.num (r : Rd) (n : Nat) : Nat × Rd := (pNum (r.take n).1, (r.take n).2)
theorem Rd.take_length (r : Rd) (n : Nat) : (r.take n).1.length ≤ n := by
  unfold Rd.take
  split
  · simp
  · split
    · simp
    · simp; omega
theorem Rd.take_rest (r : Rd) (n : Nat) : (r.take n).2.rest.length ≤ r.rest.length := by
  unfold Rd.take
  split
  · simp
  · split
    · simp
    · simp
theorem Rd.num_lt (r : Rd) (n : Nat) : (r.num n).1 < 256 ^ n := Nat.lt_of_lt_of_le (pNum_lt _) (Nat.pow_le_pow_right (by decide) (r.take_length n))
theorem rnumber_calls (g n : Nat) (hn : n ≤ 8) (r : Rd) (hl : r.rest.length ≤ 4611686018427387904) (w : World) (h : RdAt w g r) :
    Calls Tryd.prog 33 #[.pointer (some ⟨g, 0, none⟩), .int .i64 (n : Int)] w fun e w' => e = .returned (.int .u64 ((r.num n).1 : Int)) ∧ RdAt w' g (r.num n).2 ∧ Turned g w w' := by
  refine (rnumber_of _ n (r.take n).1 (Nat.le_trans (r.take_length n) hn) (fun w1 => RdAt w1 g (r.take n).2 ∧ Turned g w w1) w (take_calls g n (by omega) r hl w h)).mono ?_
  rintro e w' ⟨rfl, w1, ⟨h1, t1⟩, hb⟩
  exact ⟨rfl, h1.below hb, t1.trans (Turned.of_below hb (Nat.le_of_lt h1.lt))⟩
theorem rnumber_nil (n : Nat) (hn : n ≤ 8) (w : World) :
    Calls Tryd.prog 33 #[.pointer none, .int .i64 (n : Int)] w fun e w' => e = .returned (.int .u64 0) ∧ Below w.heap.size w w' := by
  refine (rnumber_of _ n [] (by simp) (fun w1 => w1 = w) w (take_nil n (by omega) w)).mono ?_
  rintro e w' ⟨rfl, w1, rfl, hb⟩
  exact ⟨rfl, hb⟩
theorem rword_calls (g : Nat) (r : Rd) (hl : r.rest.length ≤ 4611686018427387904) (w : World) (h : RdAt w g r) :
    Calls Tryd.prog 19 #[.pointer (some ⟨g, 0, none⟩)] w fun e w' => e = .returned (.int .u32 ((r.num 4).1 : Int)) ∧ RdAt w' g (r.num 4).2 ∧ Turned g w w' := by
  have hc := rnumber_calls g 4 (by decide) r hl w h
  have hlt := r.num_lt 4
  generalize (r.num 4).2 = r1 at *
  generalize (r.num 4).1 = m at *
  have Hc := hide hc
  have hm : m < 4294967296 := hlt
  clear hc h hlt
  go_enter Tryd.func19, Tryd.ntmps19
  go_wp2_with fail
  refine (unhide Hc).mono ?_
  rintro e w' ⟨rfl, h1, t1⟩
  go_wp2
  go_ret
  exact ⟨rfl, h1, t1⟩
theorem rword_nil (w : World) :
    Calls Tryd.prog 19 #[.pointer none] w fun e w' => e = .returned (.int .u32 0) ∧ Below w.heap.size w w' := by
  go_enter Tryd.func19, Tryd.ntmps19
  go_wp2_with fail
  refine (rnumber_nil 4 (by decide) _).mono ?_
  rintro e w' ⟨rfl, hb⟩
  go_wp2
  go_ret
  exact ⟨rfl, hb⟩
/-- A word that is at most so much. -/
def Rd.len (r : Rd) (most : Int) : Nat × Rd := ((r.num 4).1, if 0 < (r.num 4).1 ∧ most < ((r.num 4).1 : Int) then (r.num 4).2.fail 5 else (r.num 4).2)
theorem Rd.len_lt (r : Rd) (most : Int) : (r.len most).1 < 4294967296 := r.num_lt 4
set_option maxHeartbeats 400000 in
theorem rlength_calls (g : Nat) (r : Rd) (hl : r.rest.length ≤ 4611686018427387904) (most : Int) (w : World) (h : RdAt w g r) :
    Calls Tryd.prog 35 #[.pointer (some ⟨g, 0, none⟩), .int .i64 most] w fun e w' => e = .returned (.int .i64 ((r.len most).1 : Int)) ∧ RdAt w' g (r.len most).2 ∧ Turned g w w' := by
  have hc := rword_calls g r hl w h
  have hlt := r.num_lt 4
  unfold Rd.len
  generalize (r.num 4).2 = r1 at *
  generalize (r.num 4).1 = m at *
  have Hc := hide hc
  have hm : m < 4294967296 := hlt
  clear hc h hlt
  by_cases h0 : 0 < m
  · have d0 : decide (0 < m) = true := by simpa using h0
    by_cases h1 : most < (m : Int)
    · have d1 : decide (most < (m : Int)) = true := by simpa using h1
      have hr : (if 0 < m ∧ most < (m : Int) then r1.fail 5 else r1) = r1.fail 5 := by simp [h0, h1]
      simp only [hr]
      clear hr h0 h1
      go_enter Tryd.func35, Tryd.ntmps35
      go_wp2_with fail
      refine (unhide Hc).mono ?_
      rintro e w1 ⟨rfl, h1, t1⟩
      go_wp2_with fail
      refine (fail_calls g r1 5 _ h1).mono ?_
      rintro e w2 ⟨rfl, h2, t2⟩
      go_wp2
      go_ret
      exact ⟨rfl, h2, t1.trans t2⟩
    · have d1 : decide (most < (m : Int)) = false := by simpa using h1
      have hr : (if 0 < m ∧ most < (m : Int) then r1.fail 5 else r1) = r1 := by simp [h0, h1]
      simp only [hr]
      clear hr h0 h1
      go_enter Tryd.func35, Tryd.ntmps35
      go_wp2_with fail
      refine (unhide Hc).mono ?_
      rintro e w1 ⟨rfl, h1, t1⟩
      go_wp2
      go_ret
      exact ⟨rfl, h1, t1⟩
  · have d0 : decide (0 < m) = false := by simpa using h0
    have hr : (if 0 < m ∧ most < (m : Int) then r1.fail 5 else r1) = r1 := by simp [h0]
    simp only [hr]
    clear hr h0
    go_enter Tryd.func35, Tryd.ntmps35
    go_wp2_with fail
    refine (unhide Hc).mono ?_
    rintro e w1 ⟨rfl, h1, t1⟩
    go_wp2
    go_ret
    exact ⟨rfl, h1, t1⟩
theorem rlength_nil (most : Int) (w : World) :
    Calls Tryd.prog 35 #[.pointer none, .int .i64 most] w fun e w' => e = .returned (.int .i64 0) ∧ Below w.heap.size w w' := by
  go_enter Tryd.func35, Tryd.ntmps35
  go_wp2_with fail
  refine (rword_nil _).mono ?_
  rintro e w' ⟨rfl, hb⟩
  go_wp2
  go_ret
  exact ⟨rfl, hb⟩
theorem Rd.fail_rest (r : Rd) (e : Int) : (r.fail e).rest = r.rest := by unfold Rd.fail; split <;> rfl
theorem Rd.len_rest (r : Rd) (most : Int) : (r.len most).2.rest.length ≤ r.rest.length := by
  unfold Rd.len
  have := r.take_rest 4
  split
  · rw [Rd.fail_rest]; exact this
  · exact this
/-- A text of at most so many bytes. -/
def Rd.text (r : Rd) (most : Int) : List UInt8 × Rd := (r.len most).2.take (r.len most).1
theorem rdtext_calls (g : Nat) (r : Rd) (hl : r.rest.length ≤ 4611686018427387904) (most : Int) (w : World) (h : RdAt w g r) :
    Calls Tryd.prog 20 #[.pointer (some ⟨g, 0, none⟩), .int .i64 most] w fun e w' => e = .returned (.string (str (r.text most).1)) ∧ RdAt w' g (r.text most).2 ∧ Turned g w w' := by
  have hc := rlength_calls g r hl most w h
  have hlt := r.len_lt most
  have hrs := r.len_rest most
  unfold Rd.text
  generalize (r.len most).2 = r1 at *
  generalize (r.len most).1 = m at *
  have Hc := hide hc
  clear hc h
  go_enter Tryd.func20, Tryd.ntmps20
  go_wp2_with fail
  refine (unhide Hc).mono ?_
  rintro e w1 ⟨rfl, h1, t1⟩
  go_wp2_with fail
  refine (take_calls g m (by omega) r1 (by omega) _ h1).mono ?_
  rintro e w2 ⟨rfl, h2, t2⟩
  go_wp2
  go_ret
  exact ⟨rfl, h2, t1.trans t2⟩
theorem rdtext_nil (most : Int) (w : World) :
    Calls Tryd.prog 20 #[.pointer none, .int .i64 most] w fun e w' => e = .returned (.string (str [])) ∧ Below w.heap.size w w' := by
  go_enter Tryd.func20, Tryd.ntmps20
  go_wp2_with fail
  refine (rlength_nil most _).mono ?_
  rintro e w1 ⟨rfl, hb⟩
  go_wp2_with fail
  refine (take_nil 0 (by omega) _).mono ?_
  rintro e w2 ⟨rfl, rfl⟩
  go_wp2
  go_ret
  exact ⟨rfl, hb⟩
end Go.Proofs.YtaclnlmmkcjjeaaDoor

namespace Go.Proofs.YtaclnlmmkcjjeaaDoor
open Go Go.RowKit
set_option linter.unusedSimpArgs false
set_option linter.unusedVariables false

theorem bc_toList (l : List UInt8) : (bc l).toList = Lib.byteCells l := by simp [bc]
theorem run_copy_str {P : Program} (w : World) (dT sT ty elem : TypeId) (g o dLen dCap : Nat) (l cur : List UInt8) (t : TypeId)
    (hu : P.underlying dT = some (.slice elem)) (hs : (P.info? elem).map (·.size) = some 1) (hg : w.heap[g]? = some (.cells (bc cur) t (0, 0))) (m : Nat) (hm : m = Nat.min l.length dLen) (hfit : o + m ≤ cur.length) :
    (Builtin.copy_ #[dT, sT] ty #[.slice (some ⟨g, o, none⟩) dLen dCap, .string (str l)]).run P w = .ok (goInt m) (w.setRow g (bc (cur.take o ++ l.take m ++ cur.drop (o + m)))) := by
  have hl : (Lib.byteCells (l.take m)).length = m := by
    rw [Lib.byteCells_length, List.length_take, hm]; exact Nat.min_eq_left (Nat.min_le_left _ _)
  have hst := run_storeCells_at (P := P) g o t (Lib.byteCells (l.take m)) 0 (bc cur) w hg (by rw [hl, bc_size]; simpa using hfit) (Lib.byteCells_one _)
  rw [hl, bc_toList, Nat.add_zero] at hst
  have e : ((Lib.byteCells cur).take o ++ Lib.byteCells (l.take m) ++ (Lib.byteCells cur).drop (o + m)).toArray = bc (cur.take o ++ l.take m ++ cur.drop (o + m)) := by
    simp [bc, Lib.byteCells]
  rw [e] at hst
  have hmin : Nat.min (str l).size dLen = m := by rw [str_size, hm]
  have htk : List.take m (List.map (fun b : UInt8 => Value.int IntKind.u8 (b.toNat : Int)) (str l).data.toList) = Lib.byteCells (l.take m) := by
    rw [str_toList]; simp [Lib.byteCells]
  cases hq : P.info? elem with
  | none => simp [hq] at hs
  | some i =>
    simp [Builtin.copy_, run_underlying hu, Builtin.lenOf, Builtin.firstCells, sizeOf, typeInfo, hq]
    rw [str_size] at hmin
    have hmin' : (min l.length dLen) = m := hmin
    rw [str_toList] at htk
    simp [hmin', htk, hst, Result.andThen]
theorem step_copy_str {P : Program} {ops : Array Oper} {o : Oper} {a : Act} {w : World} {K : Act → World → Prop} {Q : Exit → Act → World → Prop} {E : Prop}
    (hgd : o.guard = none) (d x : Operand) (dT sT : TypeId) (hop : o.op = Op.call { callee := Callee.builtin Builtin.copy, args := #[d, x], argTypes := #[dT, sT] })
    (elem : TypeId) (hu : P.underlying dT = some (.slice elem)) (hs : (P.info? elem).map (·.size) = some 1)
    (g off dLen dCap : Nat) (hd : a.eval d = .slice (some ⟨g, off, none⟩) dLen dCap) (l : List UInt8) (hx : a.eval x = .string (str l)) (cur : List UInt8) (t : TypeId) (hg : w.heap[g]? = some (.cells (bc cur) t (0, 0)))
    (m : Nat) (hm : m = Nat.min l.length dLen) (hfit : off + m ≤ cur.length)
    (hK : K (a.put o.dst (goInt m)) (w.setRow g (bc (cur.take off ++ l.take m ++ cur.drop (off + m))))) :
    if Region.wanted o (yielded ops a.tmps) = true then Oper.wp P o a w K Q else E := by
  have hw : Region.wanted o (yielded ops a.tmps) = true := by simp [Region.wanted, hgd]
  rw [if_pos hw]
  have hrun := run_copy_str (P := P) w dT sT o.type elem g off dLen dCap l cur t hu hs hg m hm hfit
  unfold Oper.wp
  rw [List.append_assoc] at hK hrun
  simp [execOp, hop, resolve, invoke, builtin, hd, hx, hrun, Result.andThen]
  exact hK
theorem wpList_copy_str {P : Program} {w : World} {ops : Array Oper} {rest : List Oper} {o : Oper} {a : Act} {Q : Exit → Act → World → Prop} (hgd : o.guard = none) (d x : Operand) (dT sT : TypeId)
    (hop : o.op = Op.call { callee := Callee.builtin Builtin.copy, args := #[d, x], argTypes := #[dT, sT] })
    (elem : TypeId) (hu : P.underlying dT = some (.slice elem)) (hs : (P.info? elem).map (·.size) = some 1)
    (g off dLen dCap : Nat) (hd : a.eval d = .slice (some ⟨g, off, none⟩) dLen dCap) (l : List UInt8) (hx : a.eval x = .string (str l)) (cur : List UInt8) (t : TypeId) (hg : w.heap[g]? = some (.cells (bc cur) t (0, 0)))
    (m : Nat) (hm : m = Nat.min l.length dLen) (hfit : off + m ≤ cur.length)
    (h : wpList P ops Q rest (a.put o.dst (goInt m)) (w.setRow g (bc (cur.take off ++ l.take m ++ cur.drop (off + m))))) : wpList P ops Q (o :: rest) a w := by
  refine wpList_plain hgd fun K hK => ?_
  have hrun := run_copy_str (P := P) w dT sT o.type elem g off dLen dCap l cur t hu hs hg m hm hfit
  unfold Oper.wp
  rw [List.append_assoc] at h hrun
  simp [execOp, hop, resolve, invoke, builtin, hd, hx, hrun, Result.andThen]
  exact hK _ _ h
end Go.Proofs.YtaclnlmmkcjjeaaDoor

namespace Go.Proofs.YtaclnlmmkcjjeaaDoor
open Go.RowKit
set_option linter.unusedSimpArgs false
set_option linter.unusedVariables false

/-- A digest of the bytes that are there. -/
def pad32 (l : List UInt8) : List UInt8 := l ++ List.replicate (32 - l.length) 0
theorem pad32_length (l : List UInt8) (h : l.length ≤ 32) : (pad32 l).length = 32 := by simp [pad32]; omega

end Go.Proofs.YtaclnlmmkcjjeaaDoor

namespace Go.Proofs.YtaclnlmmkcjjeaaDoor
open Go.RowKit
set_option linter.unusedSimpArgs false
set_option linter.unusedVariables false

theorem repl_getD (n j : Nat) (h : j < n) : (List.replicate n (0 : UInt8)).getD j 0 = 0 := by
  rw [List.getD_eq_getElem?_getD, List.getElem?_replicate, if_pos h]; rfl
end Go.Proofs.YtaclnlmmkcjjeaaDoor

namespace Go.Proofs.YtaclnlmmkcjjeaaDoor
open Go.RowKit
set_option linter.unusedSimpArgs false
set_option linter.unusedVariables false

theorem splice_list (l : List UInt8) (s j k : Nat) (hl : l.length = 32 * k) (hs : s = 32 * j) (hj : j < k) :
    (l.take (32 * j) ++ List.replicate (32 * (k - j)) 0).take (j * 32) ++ (l.drop s).take 32 ++ (l.take (32 * j) ++ List.replicate (32 * (k - j)) 0).drop (j * 32 + 32) = l.take (32 * (j + 1)) ++ List.replicate (32 * (k - (j + 1))) 0 := by
  have h1 : (l.take (32 * j)).length = 32 * j := by rw [List.length_take]; omega
  have e1 : (l.take (32 * j) ++ List.replicate (32 * (k - j)) 0).take (j * 32) = l.take (32 * j) := by
    rw [List.take_append_of_le_length (by omega), List.take_of_length_le (by omega)]
  have e2 : (l.take (32 * j) ++ List.replicate (32 * (k - j)) (0 : UInt8)).drop (j * 32 + 32) = List.replicate (32 * (k - (j + 1))) 0 := by
    rw [List.drop_append, h1, List.drop_of_length_le (by omega), List.drop_replicate, List.nil_append]
    congr 1; omega
  rw [e1, e2, hs, show 32 * (j + 1) = 32 * j + 32 by omega, List.take_add]
end Go.Proofs.YtaclnlmmkcjjeaaDoor

namespace Go.Proofs.YtaclnlmmkcjjeaaDoor
open Go.RowKit
set_option linter.unusedSimpArgs false
set_option linter.unusedVariables false

/-- A list of digests in memory: their bytes. -/
def Digs (w : World) (v : Value) (l : List UInt8) : Prop :=
  ∃ p n cap, v = .slice p n cap ∧ l.length = 32 * n ∧ (0 < n → ∃ b off, p = some ⟨b, off, none⟩ ∧ b < w.heap.size ∧ Bytes w b off l)
theorem Digs.below {w w' : World} {v : Value} {l : List UInt8} (h : Digs w v l) (hb : Below w.heap.size w w') : Digs w' v l := by
  obtain ⟨p, n, cap, rfl, hl, hp⟩ := h
  refine ⟨p, n, cap, rfl, hl, fun hn => ?_⟩
  obtain ⟨b, off, rfl, hlt, hby⟩ := hp hn
  exact ⟨b, off, rfl, Nat.lt_of_lt_of_le hlt hb.size, hby.below hb hlt⟩
/-- A new row of digests. -/
theorem digs_row {w : World} {b k : Nat} {l : List UInt8} {t : TypeId} (hl : l.length = 32 * k) (h : w.heap[b]? = some (.cells (bc l) t (0, 0))) : Digs w (.slice (some ⟨b, 0, none⟩) k k) l :=
  ⟨_, _, _, rfl, hl, fun _ => ⟨b, 0, rfl, (Array.getElem?_eq_some_iff.1 h).1, fun j hj => by rw [Nat.zero_add, cell_of_row _ _ _ _ _ _ h]; exact bc_at _ _ hj⟩⟩

theorem Rd.take_whole (r : Rd) (n : Nat) : (r.take n).1.length = 0 ∨ (r.take n).1.length = n := by
  unfold Rd.take
  split
  · simp
  · split
    · simp
    · simp; omega
/-- Digests of at most so many: their bytes. -/
def Rd.digests (r : Rd) (most : Int) : List UInt8 × Rd := (r.len most).2.take (32 * (r.len most).1)
theorem Rd.digests_rest (r : Rd) (most : Int) : (r.digests most).2.rest.length ≤ r.rest.length := Nat.le_trans (Rd.take_rest _ _) (r.len_rest most)
/-- A signature's cells. -/
def sigCells (i : Int) (a b c : Value) : Array Value := #[.int .i64 i, a, b, c]
def sig0 : Array Value := #[.int .i64 0, .slice none 0 0, .slice none 0 0, .slice none 0 0]
theorem sig_cell {w : World} {G : Nat} {cs : Array Value} {t : TypeId} (h : w.heap[G]? = some (.cells cs t (0, 0))) : (∀ j v, cs[j]? = some v → w.cell? ⟨G, j, none⟩ = some v) ∧ (∀ j, w.frozen? ⟨G, j, none⟩ = false) :=
  ⟨fun j v hv => (cell_of_row _ _ _ _ _ _ h).trans hv, fun j => frozen_of_row _ _ _ _ _ h⟩
theorem set4 (w : World) (g : Nat) (t : TypeId) (z0 z1 z2 z3 v0 v1 v2 v3 : Value) (hg : w.heap[g]? = some (.cells #[z0, z1, z2, z3] t (0, 0))) : ((((w.setCell ⟨g, 0, none⟩ v0).setCell ⟨g, 1, none⟩ v1).setCell ⟨g, 2, none⟩ v2).setCell ⟨g, 3, none⟩ v3).heap[g]? = some (.cells #[v0, v1, v2, v3] t (0, 0)) := by
  have h0 : (w.setCell ⟨g, 0, none⟩ v0).heap[g]? = some (.cells #[v0, z1, z2, z3] t (0, 0)) := heap_setCell_same _ g 0 _ t v0 hg
  have h1 : ((w.setCell ⟨g, 0, none⟩ v0).setCell ⟨g, 1, none⟩ v1).heap[g]? = some (.cells #[v0, v1, z2, z3] t (0, 0)) := heap_setCell_same _ g 1 _ t v1 h0
  have h2 : (((w.setCell ⟨g, 0, none⟩ v0).setCell ⟨g, 1, none⟩ v1).setCell ⟨g, 2, none⟩ v2).heap[g]? = some (.cells #[v0, v1, v2, z3] t (0, 0)) := heap_setCell_same _ g 2 _ t v2 h1
  exact heap_setCell_same _ g 3 _ t v3 h2
end Go.Proofs.YtaclnlmmkcjjeaaDoor

namespace Go.Proofs.YtaclnlmmkcjjeaaDoor
open Go.RowKit
set_option linter.unusedSimpArgs false
set_option linter.unusedVariables false

theorem Turned.alloc {g : Nat} {w w' : World} (h : Turned g w w') (hg : g ≤ w'.heap.size) (o : Obj) : Turned g w (w'.alloc o) :=
  h.trans (Turned.of_below ((Below.refl _ _).alloc (Nat.le_refl _) o) hg)
theorem Turned.setNew {g G o : Nat} {w w' : World} (h : Turned g w w') (hG : w.heap.size ≤ G) (hg : g ≤ G) (v : Value) : Turned g w (w'.setCell ⟨G, o, none⟩ v) :=
  ⟨h.below.setCell (by show g ≤ G; exact hg) _, fun k hk hk2 => by rw [heap_setCell_other _ _ _ _ (by show k ≠ G; omega)]; exact h.kept k hk hk2⟩
theorem RdAt.other {g G o : Nat} {w : World} {r : Rd} (h : RdAt w g r) (hG : g ≠ G) (v : Value) : RdAt (w.setCell ⟨G, o, none⟩ v) g r :=
  (heap_setCell_other w ⟨G, o, none⟩ g v (by show g ≠ G; exact hG)).trans h
theorem RdAt.alloc {g : Nat} {w : World} {r : Rd} (h : RdAt w g r) (o : Obj) : RdAt (w.alloc o) g r := (Below.heap_alloc w o g h.lt).trans h

def Rd.head (r : Rd) : Rd := if 2147483647 < (r.num 4).1 then (r.num 4).2.fail 8 else (r.num 4).2
theorem Rd.head_rest (r : Rd) : r.head.rest.length ≤ r.rest.length := by
  unfold Rd.head
  have := r.take_rest 4
  split
  · rw [Rd.fail_rest]; exact this
  · exact this
def Rd.d1 (r : Rd) : List UInt8 × Rd := r.head.digests 32
def Rd.d2 (r : Rd) : List UInt8 × Rd := r.d1.2.digests 32
def Rd.d3 (r : Rd) : List UInt8 × Rd := r.d2.2.digests 32
theorem Rd.d1_rest (r : Rd) : r.d1.2.rest.length ≤ r.rest.length := Nat.le_trans (Rd.digests_rest _ _) r.head_rest
theorem Rd.d2_rest (r : Rd) : r.d2.2.rest.length ≤ r.rest.length := Nat.le_trans (Rd.digests_rest _ _) r.d1_rest
theorem Rd.d3_rest (r : Rd) : r.d3.2.rest.length ≤ r.rest.length := Nat.le_trans (Rd.digests_rest _ _) r.d2_rest


end Go.Proofs.YtaclnlmmkcjjeaaDoor

namespace Go.Proofs.YtaclnlmmkcjjeaaDoor
open Go.RowKit
set_option linter.unusedSimpArgs false
set_option linter.unusedVariables false

theorem wword_calls (n : Nat) (hn : n < 4294967296) (w : World) :
    Calls Tryd.prog 30 #[.int .u32 (n : Int)] w fun e w' => e = .returned (.string (str (pBig n 4))) ∧ Below w.heap.size w w' := by
  have hc := number_calls n 4 (by decide) (by decide) w
  generalize pBig n 4 = B at *
  have Hc := hide hc
  clear hc
  go_enter Tryd.func30, Tryd.ntmps30
  go_wp2_with fail
  refine (unhide Hc).mono ?_
  rintro e w' ⟨rfl, hb⟩
  go_wp2
  go_ret
  exact ⟨rfl, hb⟩
theorem wbyte_calls (n : Nat) (hn : n < 256) (w : World) :
    Calls Tryd.prog 40 #[.int .u8 (n : Int)] w fun e w' => e = .returned (.string (str (pBig n 1))) ∧ Below w.heap.size w w' := by
  have hc := number_calls n 1 (by decide) (by decide) w
  generalize pBig n 1 = B at *
  have Hc := hide hc
  clear hc
  go_enter Tryd.func40, Tryd.ntmps40
  go_wp2_with fail
  refine (unhide Hc).mono ?_
  rintro e w' ⟨rfl, hb⟩
  go_wp2
  go_ret
  exact ⟨rfl, hb⟩
/-- A text's length, and it. -/
def pText4 (l : List UInt8) : List UInt8 := pBig l.length 4 ++ l
theorem pText4_length (l : List UInt8) : (pText4 l).length = 4 + l.length := by unfold pText4; rw [List.length_append, pBig_length]
theorem wtext_calls (l : List UInt8) (hl : l.length < 4294967296) (w : World) :
    Calls Tryd.prog 31 #[.string (str l)] w fun e w' => e = .returned (.string (str (pText4 l))) ∧ Below w.heap.size w w' := by
  have hc := wword_calls l.length hl w
  unfold pText4
  have hlen := pBig_length l.length 4
  generalize pBig l.length 4 = B at *
  have Hc := hide hc
  have ea := append_str B l
  have n1 : ¬ 9223372036854775807 < B.length + l.length := by omega
  clear hc hlen
  go_enter Tryd.func31, Tryd.ntmps31
  go_wp2_with fail
  refine (unhide Hc).mono ?_
  rintro e w' ⟨rfl, hb⟩
  go_wp2
  go_ret
  exact ⟨rfl, hb⟩
end Go.Proofs.YtaclnlmmkcjjeaaDoor

namespace Go.Proofs.YtaclnlmmkcjjeaaDoor
open Go.RowKit
set_option linter.unusedSimpArgs false
set_option linter.unusedVariables false

end Go.Proofs.YtaclnlmmkcjjeaaDoor

namespace Go.Proofs
open Go.Shelf
def Tryd.lays316_ren : Go.Shelf.Ren := ⟨fun | 316 => 60 | n => n, fun | 0 => 0 | 3 => 3 | 4 => 4 | 5 => 5 | 9 => 9 | 37 => 67 | 127 => 98 | n => n, fun | n => n⟩
theorem Tryd.lays316 : Go.Proofs.LaysM.n316 Tryd.prog Tryd.lays316_ren := {
  mixed := by kernel_rfl
  f316 := Tryd.func60.trans (congrArg some (by kernel_rfl))
  t0 := Tryd.underlying0
  a0 := Tryd.isAgg0
  z0 := Tryd.sizeOf0
  v0 := Tryd.zeroValue0
  t3 := Tryd.underlying3
  a3 := Tryd.isAgg3
  z3 := Tryd.sizeOf3
  v3 := Tryd.zeroValue3
  t4 := Tryd.underlying4
  a4 := Tryd.isAgg4
  z4 := Tryd.sizeOf4
  v4 := Tryd.zeroValue4
  t9 := Tryd.underlying9
  a9 := Tryd.isAgg9
  z9 := Tryd.sizeOf9
  v9 := Tryd.zeroValue9
  t37 := Tryd.underlying67
  a37 := Tryd.isAgg67
  z37 := Tryd.sizeOf67
  v37 := Tryd.zeroValue67
  t127 := Tryd.underlying98
  a127 := Tryd.isAgg98
  z127 := Tryd.sizeOf98
  v127 := Tryd.zeroValue98
  t5 := Tryd.underlying5
  a5 := Tryd.isAgg5
  z5 := Tryd.sizeOf5
  v5 := Tryd.zeroValue5
  i0 := by kernel_rfl
  i3 := by kernel_rfl
  i4 := by kernel_rfl
  i5 := by kernel_rfl
  i9 := by kernel_rfl
  i37 := by kernel_rfl
  i127 := by kernel_rfl }
def Tryd.lays169_ren : Go.Shelf.Ren := ⟨fun | 169 => 41 | n => n, fun | 0 => 0 | 3 => 3 | 5 => 5 | 9 => 9 | 37 => 67 | 70 => 74 | 72 => 76 | 127 => 98 | n => n, fun | n => n⟩
theorem Tryd.lays169 : Go.Proofs.Lays.n169 Tryd.prog Tryd.lays169_ren := {
  mixed := by kernel_rfl
  f169 := Tryd.func41.trans (congrArg some (by kernel_rfl))
  t0 := Tryd.underlying0
  a0 := Tryd.isAgg0
  z0 := Tryd.sizeOf0
  v0 := Tryd.zeroValue0
  t3 := Tryd.underlying3
  a3 := Tryd.isAgg3
  z3 := Tryd.sizeOf3
  v3 := Tryd.zeroValue3
  t9 := Tryd.underlying9
  a9 := Tryd.isAgg9
  z9 := Tryd.sizeOf9
  v9 := Tryd.zeroValue9
  t37 := Tryd.underlying67
  a37 := Tryd.isAgg67
  z37 := Tryd.sizeOf67
  v37 := Tryd.zeroValue67
  t70 := Tryd.underlying74
  a70 := Tryd.isAgg74
  z70 := Tryd.sizeOf74
  v70 := Tryd.zeroValue74
  t72 := Tryd.underlying76
  a72 := Tryd.isAgg76
  z72 := Tryd.sizeOf76
  v72 := Tryd.zeroValue76
  t127 := Tryd.underlying98
  a127 := Tryd.isAgg98
  z127 := Tryd.sizeOf98
  v127 := Tryd.zeroValue98 }
theorem Tryd.Builder_Extra_169 : Builder.Extra Tryd.prog Tryd.lays169_ren := {
  sizeBuilder := by kernel_rfl
  liesBuilder := by kernel_rfl
  t5 := Tryd.underlying5
  a5 := Tryd.isAgg5
  z5 := Tryd.sizeOf5
  v5 := Tryd.zeroValue5
  infoByte := by kernel_rfl
  cellsByte := by kernel_rfl
  sizeByte := by kernel_rfl
  neB5 := by decide }
namespace YtaclnlmmkcjjeaaDoor
open Go.RowKit
theorem clone_inner (s : ByteArray) (w : World) (h : s.size ≤ 281474976710656) : Calls Tryd.prog 60 #[.string s] w fun e w' => e = .returned (.string s) ∧ Below w.heap.size w w' :=
  Any.stringslite_Clone Tryd.lays316 s w h
set_option maxHeartbeats 400000 in
theorem clone_calls (s : ByteArray) (w : World) (h : s.size ≤ 281474976710656) : Calls Tryd.prog 54 #[.string s] w fun e w' => e = .returned (.string s) ∧ Below w.heap.size w w' := by
  go_enter Tryd.func54, Tryd.ntmps54
  go_wp2_with (go_at_call 60; refine (clone_inner _ _ h).mono ?_; rintro e w' ⟨rfl, hb⟩)
  go_ret
  exact ⟨rfl, hb⟩
theorem string_calls (B b : Nat) (l : List UInt8) (w : World) (h : Lib.IsBuilderF 76 5 B b (Lib.byteCells l) w) (hBw : B ≤ w.heap.size) :
    Calls Tryd.prog 41 #[.pointer (some ⟨b, 0, none⟩)] w fun e w' => e = .returned (.string ⟨l.toArray⟩) ∧ (Lib.IsBuilderF 76 5 B b (Lib.byteCells l) w' ∧ Below B w w' ∧ Lib.OthersKept 5 (some b) w w') :=
  Any.Builder_String_any_k Tryd.lays169 Tryd.Builder_Extra_169 B b l w h hBw
end YtaclnlmmkcjjeaaDoor
end Go.Proofs

namespace Go.Proofs
open Go.Shelf
def Tryd.lays166_ren : Go.Shelf.Ren := ⟨fun | 166 => 39 | 240 => 52 | 276 => 58 | n => n, fun | 0 => 0 | 3 => 3 | 4 => 4 | 5 => 5 | 9 => 9 | 20 => 20 | 37 => 67 | 70 => 74 | 72 => 76 | 75 => 78 | 80 => 82 | 164 => 105 | n => n, fun | n => n⟩
theorem Tryd.lays166 : Go.Proofs.Lays.n166 Tryd.prog Tryd.lays166_ren := {
  mixed := by kernel_rfl
  f166 := Tryd.func39.trans (congrArg some (by kernel_rfl))
  f240 := Tryd.func52.trans (congrArg some (by kernel_rfl))
  f276 := Tryd.func58.trans (congrArg some (by kernel_rfl))
  t0 := Tryd.underlying0
  a0 := Tryd.isAgg0
  z0 := Tryd.sizeOf0
  v0 := Tryd.zeroValue0
  t3 := Tryd.underlying3
  a3 := Tryd.isAgg3
  z3 := Tryd.sizeOf3
  v3 := Tryd.zeroValue3
  t4 := Tryd.underlying4
  a4 := Tryd.isAgg4
  z4 := Tryd.sizeOf4
  v4 := Tryd.zeroValue4
  t9 := Tryd.underlying9
  a9 := Tryd.isAgg9
  z9 := Tryd.sizeOf9
  v9 := Tryd.zeroValue9
  t20 := Tryd.underlying20
  a20 := Tryd.isAgg20
  z20 := Tryd.sizeOf20
  v20 := Tryd.zeroValue20
  t37 := Tryd.underlying67
  a37 := Tryd.isAgg67
  z37 := Tryd.sizeOf67
  v37 := Tryd.zeroValue67
  t70 := Tryd.underlying74
  a70 := Tryd.isAgg74
  z70 := Tryd.sizeOf74
  v70 := Tryd.zeroValue74
  t72 := Tryd.underlying76
  a72 := Tryd.isAgg76
  z72 := Tryd.sizeOf76
  v72 := Tryd.zeroValue76
  t75 := Tryd.underlying78
  a75 := Tryd.isAgg78
  z75 := Tryd.sizeOf78
  v75 := Tryd.zeroValue78
  t164 := Tryd.underlying105
  a164 := Tryd.isAgg105
  z164 := Tryd.sizeOf105
  v164 := Tryd.zeroValue105 }
theorem Tryd.Builder_Extra_166 : Builder.Extra Tryd.prog Tryd.lays166_ren := {
  sizeBuilder := by kernel_rfl
  liesBuilder := by kernel_rfl
  t5 := Tryd.underlying5
  a5 := Tryd.isAgg5
  z5 := Tryd.sizeOf5
  v5 := Tryd.zeroValue5
  infoByte := by kernel_rfl
  cellsByte := by kernel_rfl
  sizeByte := by kernel_rfl
  neB5 := by decide }
namespace YtaclnlmmkcjjeaaDoor
open Go.RowKit
theorem writeString_calls (B b : Nat) (bs : List Value) (s : ByteArray) (w : World) (h : Lib.IsBuilderF 76 5 B b bs w) (hlen : bs.length + s.size ≤ 140737488355328) (hBw : B ≤ w.heap.size) :
    Calls Tryd.prog 39 #[.pointer (some ⟨b, 0, none⟩), .string s] w fun e w' => e = .returned (.tuple #[.int .i64 s.size, .nilIface]) ∧ (Lib.BuilderAtF 76 5 B b (.pointer (some ⟨b, 0, none⟩)) (bs ++ Lib.strCells s) w' ∧ Below B w w' ∧ Lib.OthersKept 5 (some b) w w') :=
  Any.Builder_WriteString_k Tryd.lays166 Tryd.Builder_Extra_166 B b bs s w h hlen hBw
theorem builder_below {T e : TypeId} {B b : Nat} {p : Value} {bs : List Value} {w w' : World} (h : Lib.BuilderAtF T e B b p bs w) (hb : Below w.heap.size w w') : Lib.BuilderAtF T e B b p bs w' := by
  obtain ⟨hB, v, hv, ⟨h1, h2⟩, hne⟩ := h
  have lt : ∀ k o, w.heap[k]? = some o → k < w.heap.size := fun k o ho => (Array.getElem?_eq_some_iff.1 ho).1
  refine ⟨hB, v, (hb.block b (lt _ _ hv)).trans hv, ⟨h1, ?_⟩, hne⟩
  rcases h2 with h2 | ⟨g, cap, cur, fz, rfl, hg, hh, hrest⟩
  · exact .inl h2
  · exact .inr ⟨g, cap, cur, fz, rfl, hg, (hb.block g (lt _ _ hh)).trans hh, hrest⟩
theorem isBuilder_below {T e : TypeId} {B b : Nat} {bs : List Value} {w w' : World} (h : Lib.IsBuilderF T e B b bs w) (hb : Below w.heap.size w w') : Lib.IsBuilderF T e B b bs w' :=
  h.elim (fun h => .inl (builder_below h hb)) (fun h => .inr (builder_below h hb))
end YtaclnlmmkcjjeaaDoor
end Go.Proofs

namespace Go.Proofs
open Go.Shelf
namespace YtaclnlmmkcjjeaaDoor
open Go.RowKit
end YtaclnlmmkcjjeaaDoor
end Go.Proofs

namespace Go.Proofs.YtaclnlmmkcjjeaaDoor
open Go.RowKit
set_option linter.unusedSimpArgs false
set_option linter.unusedVariables false

/-- How many, and they. -/
def pDigests (l : List UInt8) : List UInt8 := pBig (l.length / 32) 4 ++ l
end Go.Proofs.YtaclnlmmkcjjeaaDoor

namespace Go.Proofs.YtaclnlmmkcjjeaaDoor
open Go Go.RowKit
section
variable {P : Program} {ops : Array Oper} {md : Region.Mode} {C : World → Prop}

/-- Whatever order is picked, for so many steps: each step is one of the first n, and quiet; then L. -/
def headQ (P : Program) (md : Region.Mode) (ops : Array Oper) (C : World → Prop) (n : Nat) (L : Array Bool → Act → Prop) : Nat → Array Bool → Act → Prop
  | 0, listed, a => L listed a
  | f + 1, listed, a => Region.ready md ops listed ≠ [] ∧ ∀ i ∈ Region.ready md ops listed, i < n ∧ qOp P ops C i (headQ P md ops C n L f (listed.setIfInBounds i true)) a

theorem any_of_headQ {n g : Nat} {L : Array Bool → Act → Prop} {Q : Exit → Act → World → Prop} (hL : ∀ listed a w, C w → L listed a → wpAny P md ops Q g listed a w) (f : Nat) :
    ∀ (listed : Array Bool) (a : Act) (w : World), C w → headQ P md ops C n L f listed a → wpAny P md ops Q (f + g) listed a w := by
  induction f with
  | zero => intro listed a w hw h; rw [Nat.zero_add]; exact hL _ _ _ hw h
  | succ f ih =>
    intro listed a w hw h
    rw [show f + 1 + g = (f + g) + 1 by omega]
    exact ⟨fun h0 => absurd h0 h.1, fun i hi => wpOp_of_qOp hw (fun a' w' hw' h' => ih _ a' w' hw' h') (h.2 i hi).2⟩

/-- One that may come up, yields its value in every world of the class, and is apart from all that does not wait for it, may be taken first. -/
theorem headQ_first {n i : Nat} {oi : Oper} {v : Value} {L : Array Bool → Act → Prop} (hi : ops[i]? = some oi) (hsel : ∀ (j : Nat) (o : Oper) cs b, ops[j]? = some o → o.op ≠ .select cs b)
    (hs : Region.sinkB md ops n = true) (hc : Region.chainB md ops n = true) (hn : n < ops.size) (hin : i < n)
    (hend : ∀ listed a, L listed a → ∀ j ∈ Region.ready md ops listed, n ≤ j) (f : Nat) :
    ∀ (listed : Array Bool) (a : Act), HeadInv md ops n listed →
      (∀ j oj, ops[j]? = some oj → j ≠ i → listed.getD j true = false → (∀ e ∈ oj.after, Region.binds md e = true → e.on ≠ i) → oi.apart ops oj = true) →
      i ∈ Region.ready md ops listed → YieldsIn P ops C oi v a →
      headQ P md ops C n L f (listed.setIfInBounds i true) (a.put oi.dst v) → headQ P md ops C n L (f + 1) listed a := by
  induction f with
  | zero =>
    intro listed a inv _ hr hy H
    refine ⟨fun h => (by rw [h] at hr; cases hr), fun j hj => ?_⟩
    have hjn : j < n := Nat.lt_of_not_le fun h => tail_waits hs hc hn inv _ i rfl hin (mem_ready.1 hr).1 j h hj
    refine ⟨hjn, ?_⟩
    by_cases e : j = i
    · subst e; exact hy.qOp hi H
    · exact absurd (hend _ _ H j (ready_mono hj e)) (by omega)
  | succ f ih =>
    intro listed a inv apart hr hy H
    refine ⟨fun h => (by rw [h] at hr; cases hr), fun j hj => ?_⟩
    have hjn : j < n := Nat.lt_of_not_le fun h => tail_waits hs hc hn inv _ i rfl hin (mem_ready.1 hr).1 j h hj
    refine ⟨hjn, ?_⟩
    by_cases e : j = i
    · subst e; exact hy.qOp hi H
    · obtain ⟨hun, oj, hoj, hall⟩ := mem_ready.1 hj
      have free : ∀ e ∈ oj.after, Region.binds md e = true → e.on ≠ i := fun e he hb heq => by
        have h1 := hall e he hb
        rw [heq, getD_both (mem_ready.1 hr).1] at h1
        cases h1
      have step := qOp_put hoj (apart j oj hoj e hun free) (fun cs b => hsel i oi cs b hi) (fun cs b => hsel j oj cs b hoj) hy (H.2 j (ready_mono hj e)).2
      refine qOp_mono (fun a' h3 => ih (listed.setIfInBounds j true) a' (inv.set hj hjn) (fun k ok hk hki hk2 hno => apart k ok hk hki ?_ hno) (ready_mono hr (Ne.symm e)) h3.1 ?_) step
      · by_cases hjk : j = k
        · subst hjk; exact hun
        · rw [getD_set_ne true hjk] at hk2; exact hk2
      · rw [Array.setIfInBounds_comm _ _ e]; exact h3.2

/-- The text's order serves every order. -/
theorem headQ_lex {n g : Nat} {R : Act → Prop} (hsel : Region.noSelect ops = true) (hs : Region.sinkB md ops n = true) (hc : Region.chainB md ops n = true) (hn : n < ops.size) :
    ∀ (l : List Oper) (k : Nat) (listed : Array Bool) (a : Act), (∀ j, j < l.length → l[j]? = ops[k + j]?) → k + l.length = n → HeadInv md ops n listed →
    Region.lexHead md ops g l.length k listed = true → wpQuiet P ops C R l a →
    headQ P md ops C n (fun listed' a' => Region.seqB md ops g n listed' = true ∧ R a') l.length listed a
  | [], k, listed, a, _, hk, _, hB, h => by
    obtain rfl : k = n := by simpa using hk
    exact ⟨by simpa [Region.lexHead] using hB, h⟩
  | o :: l, k, listed, a, hl, hk, inv, hB, h => by
    have h0 : ops[k]? = some o := by simpa using (hl 0 (by simp)).symm
    simp only [List.length_cons, Region.lexHead, Bool.and_eq_true] at hB
    obtain ⟨⟨hr, hf⟩, hB'⟩ := hB
    have hkn : k < n := by simp only [List.length_cons] at hk; omega
    have hr' : k ∈ Region.ready md ops listed := by simpa using hr
    obtain ⟨v, hy, hK⟩ := yieldsIn_of_qOp (C := C) (K := wpQuiet P ops C R l) h0 (by unfold qOp; simp only [h0]; exact h)
    refine headQ_first h0 (Region.noSelect_spec hsel) hs hc hn hkn (fun _ _ hL => seqB_ready hL.1) l.length listed a inv (Region.free_spec h0 hf) hr' hy ?_
    exact headQ_lex hsel hs hc hn l (k + 1) _ _ (fun j hj => by have := hl (j + 1) (by simp; omega); simpa [Nat.add_assoc, Nat.add_comm 1 j] using this) (by simp only [List.length_cons] at hk; omega) (inv.set hr' hkn) hB' hK

/-- A REGION THAT DRAWS: the first n operations quiet in a class of worlds, walked in the text's order; what is left in its forced order, from whatever world of the class. -/
theorem wp_region_quiet_tail {id : Nat} {Q : Exit → Act → World → Prop} {a : Act} {w : World} {l : List Oper} (n : Nat) (hm : P.follows .mixedOrders = true) (hB : Region.lexTailB .any l.toArray n = true)
    (hC : C { w with drawn := w.drawn + 1 }) (h : wpQuiet P l.toArray C (fun a' => ∀ w', C w' → wpList P l.toArray Q (l.drop n) a' w') (l.take n) a) : (Code.region id l.toArray true).wp P Q a w := by
  simp only [Region.lexTailB, Bool.and_eq_true, decide_eq_true_eq] at hB
  obtain ⟨⟨⟨⟨hsel, hn⟩, hs⟩, hc⟩, hlex⟩ := hB
  have hn' : n < l.length := by simpa using hn
  have htl : (l.take n).length = n := by simp; omega
  have hdl : (l.drop n).length = l.toArray.size - n := by simp
  have inv : HeadInv .any l.toArray n (Array.replicate l.toArray.size false) :=
    ⟨by simp, fun j oj _ hl => (by rw [getD_replicate_false] at hl; cases hl), fun t _ ht => getD_in (by simpa using ht) (getD_replicate_false _ _)⟩
  have H := headQ_lex (C := C) (md := .any) (g := l.toArray.size - n) hsel hs hc hn (l.take n) 0 _ a (fun j hj => by
    have hj' : j < n := by rw [htl] at hj; exact hj
    simp [hj']) (by simpa using htl) inv (by rw [htl]; exact hlex) h
  refine wp_region_any hm ?_
  have fin := any_of_headQ (Q := Q) (g := l.toArray.size - n) (fun listed a' w' hw' hL => by
    have := wpAny_of_seq (md := .any) (Q' := Q) (l.drop n) n listed a' w' (fun j => by simp [List.getElem?_drop]) (by rw [hdl]; exact hL.1) (hL.2 w' hw')
    rwa [hdl] at this) _ _ _ _ hC H
  rw [htl, show n + (l.toArray.size - n) = l.toArray.size by omega] at fin
  exact fin
end

/-- The class of the worlds in which all that lay there lies as it lay. -/
theorem wp_region_below_tail {P : Program} {id : Nat} {Q : Exit → Act → World → Prop} {a : Act} {w : World} {l : List Oper} (n : Nat) (hm : P.follows .mixedOrders = true) (hB : Region.lexTailB .any l.toArray n = true)
    (h : wpQuiet P l.toArray (fun w' => ∃ p : Regrown, w' = Sort.grow (redrawn w p.d) p.os) (fun a' => ∀ w', Below w.heap.size w w' → wpList P l.toArray Q (l.drop n) a' w') (l.take n) a) : (Code.region id l.toArray true).wp P Q a w := by
  refine wp_region_quiet_tail n hm hB (C := fun w' => ∃ p : Regrown, w' = Sort.grow (redrawn w p.d) p.os) ⟨⟨w.drawn + 1, #[]⟩, by rw [Sort.grow_empty]; rfl⟩ ?_
  have e : (fun a' => ∀ w', Below w.heap.size w w' → wpList P l.toArray Q (l.drop n) a' w') = fun a' => ∀ w', (∃ p : Regrown, w' = Sort.grow (redrawn w p.d) p.os) → wpList P l.toArray Q (l.drop n) a' w' := by
    funext a'; apply propext
    exact ⟨fun H w' ⟨p, hp⟩ => H w' (by rw [hp]; exact below_regrown w p.d p.os), fun H w' hb => H w' (regrown_of_below hb)⟩
  rw [← e]; exact h
/-- The same without a tail. -/
theorem wp_region_below {P : Program} {id : Nat} {Q : Exit → Act → World → Prop} {a : Act} {w : World} {l : List Oper} (hm : P.follows .mixedOrders = true) (hB : Region.lexB .any l.toArray = true)
    (h : wpQuiet P l.toArray (fun w' => ∃ p : Regrown, w' = Sort.grow (redrawn w p.d) p.os) (fun a' => ∀ w', Below w.heap.size w w' → Q .normal a' w') l a) : (Code.region id l.toArray true).wp P Q a w := by
  refine wp_region_quiet_below hm hB ?_
  have e : (fun a' => ∀ w', Below w.heap.size w w' → Q .normal a' w') = fun a' => ∀ w', (∃ p : Regrown, w' = Sort.grow (redrawn w p.d) p.os) → Q .normal a' w' := by
    funext a'; apply propext
    exact ⟨fun H w' ⟨p, hp⟩ => H w' (by rw [hp]; exact below_regrown w p.d p.os), fun H w' hb => H w' (regrown_of_below hb)⟩
  rw [← e]; exact h

end Go.Proofs.YtaclnlmmkcjjeaaDoor

namespace Go.Proofs.YtaclnlmmkcjjeaaDoor
open Go.RowKit
set_option linter.unusedSimpArgs false
set_option linter.unusedVariables false

/-- A signature's bytes. -/
def pSig (i : Int) (a b c : List UInt8) : List UInt8 := pBig (i % 4294967296).toNat 4 ++ pDigests a ++ pDigests b ++ pDigests c
theorem pDigests_length (l : List UInt8) : (pDigests l).length = 4 + l.length := by rw [pDigests, List.length_append, pBig_length]
end Go.Proofs.YtaclnlmmkcjjeaaDoor

namespace Go.Proofs.YtaclnlmmkcjjeaaDoor
open Go.RowKit
set_option linter.unusedSimpArgs false
set_option linter.unusedVariables false

theorem pBig_snoc (m b k : Nat) (hb : b < 256) : pBig (m * 256 + b) (k + 1) = pBig m k ++ [UInt8.ofNat b] := by
  unfold pBig
  rw [List.range_succ, List.map_append]
  congr 1
  · apply List.map_congr_left
    intro i hi
    have hi : i < k := List.mem_range.1 hi
    rw [show k + 1 - 1 - i = (k - 1 - i) + 1 by omega, Nat.mul_add, Nat.pow_add, Nat.mul_comm (2 ^ (8 * (k - 1 - i))), ← Nat.div_div_eq_div_mul, show (m * 256 + b) / 2 ^ (8 * 1) = m by omega]
  · simp only [List.map_cons, List.map_nil, Nat.add_sub_cancel, Nat.sub_self, Nat.mul_zero, Nat.pow_zero, Nat.div_one]
    congr 1
    apply UInt8.toNat.inj
    simp only [UInt8.toNat_ofNat']
    omega
theorem pBig_pNum : ∀ (k : Nat) (l : List UInt8), l.length = k → pBig (pNum l) k = l
  | 0, l, h => by rw [List.eq_nil_of_length_eq_zero h]; rfl
  | k + 1, l, h => by
    obtain ⟨a, b, rfl⟩ : ∃ a b, l = a ++ [b] := ⟨l.dropLast, l.getLast (by intro h0; rw [h0] at h; cases h), (List.dropLast_concat_getLast _).symm⟩
    have ha : a.length = k := by simpa using h
    rw [pNum_snoc, pBig_snoc _ _ _ b.toNat_lt, pBig_pNum k a ha]; simp
theorem pNum_pBig : ∀ (k n : Nat), n < 256 ^ k → pNum (pBig n k) = n
  | 0, n, h => by
    have : n = 0 := by simpa using h
    subst this; rfl
  | k + 1, n, h => by
    have e : n = n / 256 * 256 + n % 256 := by omega
    have h2 : n / 256 < 256 ^ k := by rw [Nat.pow_succ] at h; omega
    rw [e, pBig_snoc _ _ _ (by omega), pNum_snoc, pNum_pBig k _ h2]
    simp only [UInt8.toNat_ofNat']
    omega

theorem Rd.take_ok (r : Rd) (n : Nat) (h : (r.take n).2.err = 0) : r.err = 0 ∧ r.rest = (r.take n).1 ++ (r.take n).2.rest ∧ (r.take n).1.length = n := by
  unfold Rd.take at *
  split at h
  · rename_i h0; exact absurd h h0
  · rename_i h0
    split at h
    · cases h
    · rename_i h1
      rw [if_neg h0, if_neg h1]
      exact ⟨by omega, (List.take_append_drop _ _).symm, by simp; omega⟩
theorem Rd.num_ok (r : Rd) (n : Nat) (h : (r.num n).2.err = 0) : r.err = 0 ∧ r.rest = pBig (r.num n).1 n ++ (r.num n).2.rest := by
  obtain ⟨h0, h1, h2⟩ := r.take_ok n h
  refine ⟨h0, ?_⟩
  show r.rest = pBig (pNum (r.take n).1) n ++ _
  rw [pBig_pNum n _ h2]; exact h1
theorem Rd.fail_bad (r : Rd) (e : Int) (he : e ≠ 0) : (r.fail e).err ≠ 0 := by
  unfold Rd.fail
  split
  · exact he
  · assumption
theorem Rd.len_ok (r : Rd) (most : Int) (h : (r.len most).2.err = 0) : r.err = 0 ∧ r.rest = pBig (r.len most).1 4 ++ (r.len most).2.rest := by
  unfold Rd.len at *
  split at h
  · exact absurd h (Rd.fail_bad _ _ (by decide))
  · rename_i hc
    simp only [if_neg hc]
    exact r.num_ok 4 h
theorem Rd.text_ok (r : Rd) (most : Int) (h : (r.text most).2.err = 0) : r.err = 0 ∧ r.rest = pText4 (r.text most).1 ++ (r.text most).2.rest := by
  obtain ⟨h0, h1, h2⟩ := Rd.take_ok _ _ h
  obtain ⟨h3, h4⟩ := r.len_ok most h0
  refine ⟨h3, ?_⟩
  rw [h4, h1, pText4, List.append_assoc]
  show _ = pBig ((r.len most).2.take (r.len most).1).1.length 4 ++ _
  rw [h2]; rfl
theorem Rd.digests_ok (r : Rd) (most : Int) (h : (r.digests most).2.err = 0) : r.err = 0 ∧ r.rest = pDigests (r.digests most).1 ++ (r.digests most).2.rest := by
  obtain ⟨h0, h1, h2⟩ := Rd.take_ok _ _ h
  obtain ⟨h3, h4⟩ := r.len_ok most h0
  refine ⟨h3, ?_⟩
  rw [h4, h1, pDigests, List.append_assoc]
  show _ = pBig (((r.len most).2.take (32 * (r.len most).1)).1.length / 32) 4 ++ _
  rw [h2, Nat.mul_div_cancel_left _ (by decide)]; rfl
theorem Rd.head_ok (r : Rd) (h : r.head.err = 0) : r.err = 0 ∧ (r.num 4).1 ≤ 2147483647 ∧ r.rest = pBig (r.num 4).1 4 ++ r.head.rest := by
  unfold Rd.head at *
  split at h
  · exact absurd h (Rd.fail_bad _ _ (by decide))
  · rename_i hc
    simp only [if_neg hc]
    have := r.num_ok 4 h
    exact ⟨this.1, by omega, this.2⟩
theorem Rd.sig_ok (r : Rd) (h : r.d3.2.err = 0) : r.err = 0 ∧ (r.num 4).1 ≤ 2147483647 ∧ r.rest = pSig ((r.num 4).1 : Int) r.d1.1 r.d2.1 r.d3.1 ++ r.d3.2.rest := by
  obtain ⟨a3, b3⟩ := r.d2.2.digests_ok 32 h
  obtain ⟨a2, b2⟩ := r.d1.2.digests_ok 32 a3
  obtain ⟨a1, b1⟩ := r.head.digests_ok 32 a2
  obtain ⟨a0, c0, b0⟩ := r.head_ok a1
  refine ⟨a0, c0, ?_⟩
  have b3' : r.d2.2.rest = pDigests r.d3.1 ++ r.d3.2.rest := b3
  have b2' : r.d1.2.rest = pDigests r.d2.1 ++ r.d2.2.rest := b2
  have b1' : r.head.rest = pDigests r.d1.1 ++ r.d1.2.rest := b1
  rw [b0, b1', b2', b3', pSig, show ((r.num 4).1 : Int) % 4294967296 = ((r.num 4).1 : Int) by omega, Int.toNat_natCast]
  simp only [List.append_assoc]
theorem Rd.end_ok (r : Rd) (h : r.end' = 0) : r.err = 0 ∧ r.rest = [] := by
  unfold Rd.end' at h
  split at h
  · rename_i h0; exact absurd h h0
  · rename_i h0
    split at h
    · cases h
    · rename_i h1; exact ⟨by omega, by simpa using h1⟩
end Go.Proofs.YtaclnlmmkcjjeaaDoor

namespace Go.Proofs.YtaclnlmmkcjjeaaDoor
open Go.RowKit
set_option linter.unusedSimpArgs false
set_option linter.unusedVariables false

theorem take_back (a t : List UInt8) (n : Nat) (h : a.length = n) : (⟨a ++ t, 0⟩ : Rd).take n = (a, ⟨t, 0⟩) := by
  subst h
  simp [Rd.take]
theorem num_back (n k : Nat) (h : n < 256 ^ k) (t : List UInt8) : (⟨pBig n k ++ t, 0⟩ : Rd).num k = (n, ⟨t, 0⟩) := by
  simp only [Rd.num, take_back _ t k (pBig_length n k), pNum_pBig k n h]
theorem len_back (n : Nat) (h : n < 4294967296) (most : Int) (hm : (n : Int) ≤ most) (t : List UInt8) : (⟨pBig n 4 ++ t, 0⟩ : Rd).len most = (n, ⟨t, 0⟩) := by
  simp only [Rd.len, num_back n 4 h t]
  rw [if_neg (by omega)]
theorem text_back (s t : List UInt8) (h : s.length < 4294967296) : (⟨pText4 s ++ t, 0⟩ : Rd).text (s.length : Int) = (s, ⟨t, 0⟩) := by
  simp only [Rd.text, pText4, List.append_assoc, len_back s.length h (s.length : Int) (Int.le_refl _), take_back s t s.length rfl]
theorem digests_back (l t : List UInt8) (k : Nat) (h : l.length = 32 * k) (hk : k ≤ 32) : (⟨pDigests l ++ t, 0⟩ : Rd).digests 32 = (l, ⟨t, 0⟩) := by
  have e : l.length / 32 = k := by omega
  simp only [Rd.digests, pDigests, List.append_assoc, e, len_back k (by omega) 32 (by omega), take_back l t (32 * k) h]
theorem sig_back (i : Nat) (hi : i ≤ 2147483647) (l1 l2 l3 t : List UInt8) (k1 k2 k3 : Nat) (h1 : l1.length = 32 * k1) (h2 : l2.length = 32 * k2) (h3 : l3.length = 32 * k3) (m1 : k1 ≤ 32) (m2 : k2 ≤ 32) (m3 : k3 ≤ 32) :
    ((⟨pSig (i : Int) l1 l2 l3 ++ t, 0⟩ : Rd).num 4).1 = i ∧ (⟨pSig (i : Int) l1 l2 l3 ++ t, 0⟩ : Rd).d1.1 = l1 ∧ (⟨pSig (i : Int) l1 l2 l3 ++ t, 0⟩ : Rd).d2.1 = l2 ∧ (⟨pSig (i : Int) l1 l2 l3 ++ t, 0⟩ : Rd).d3 = (l3, ⟨t, 0⟩) := by
  have e : ((i : Int) % 4294967296).toNat = i := by omega
  have h0 : (⟨pSig (i : Int) l1 l2 l3 ++ t, 0⟩ : Rd).num 4 = (i, ⟨pDigests l1 ++ (pDigests l2 ++ (pDigests l3 ++ t)), 0⟩) := by
    rw [pSig, e]; simp only [List.append_assoc]; exact num_back i 4 (by show i < 4294967296; omega) _
  have hh : (⟨pSig (i : Int) l1 l2 l3 ++ t, 0⟩ : Rd).head = ⟨pDigests l1 ++ (pDigests l2 ++ (pDigests l3 ++ t)), 0⟩ := by
    unfold Rd.head; rw [h0, if_neg (by show ¬ 2147483647 < i; omega)]
  have hd1 : (⟨pSig (i : Int) l1 l2 l3 ++ t, 0⟩ : Rd).d1 = (l1, ⟨pDigests l2 ++ (pDigests l3 ++ t), 0⟩) := by
    unfold Rd.d1; rw [hh, digests_back l1 _ k1 h1 m1]
  have hd2 : (⟨pSig (i : Int) l1 l2 l3 ++ t, 0⟩ : Rd).d2 = (l2, ⟨pDigests l3 ++ t, 0⟩) := by
    unfold Rd.d2; rw [hd1, digests_back l2 _ k2 h2 m2]
  have hd3 : (⟨pSig (i : Int) l1 l2 l3 ++ t, 0⟩ : Rd).d3 = (l3, ⟨t, 0⟩) := by
    unfold Rd.d3; rw [hd2, digests_back l3 _ k3 h3 m3]
  exact ⟨by rw [h0], by rw [hd1], by rw [hd2], hd3⟩
end Go.Proofs.YtaclnlmmkcjjeaaDoor
