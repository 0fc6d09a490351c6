/-
  WORDS OF 32 BITS AS BitVec 32, IN THE WALK'S SPELLING. Plain lemmas: what the walk writes for Go's operators on uint32 (over Int), said of BitVec's own operations. No program is named here.
-/
/-
  A Go STRING AS A LIST OF BYTES. Plain definitions and lemmas.
-/
/-
  SMALL LAWS OF OUR OWN, OVER WHATEVER PROGRAM: an element of an array by value; a copy into a row that is known whole, the world behind it a letter.
-/
/-
  BYTES AS CELLS OF MEMORY. Plain definitions and lemmas; a new row of noughts.
-/
/-
  EQUALITY OF ARRAYS AND STRUCTS BY VALUE, OF A VALUE WITH ITSELF. Over whatever program.
-/
/-
  LISTS OF ONE-CELL VALUES IN MEMORY.
-/
/-
  A PURSE, PLAIN: tokens, holdings; where the first one of a kind stands. LISTS OF STRUCTS IN MEMORY.
-/
/-
  A REGION THAT DRAWS ITS ORDER, STEP BY STEP: each operation that may come up is walked as a list of one. Over whatever program.
-/
/-
  slices.Clone AND slices.IndexFunc AT TOKENS.
-/
/-
  slices.Clone AND slices.IndexFunc AT HOLDINGS.
-/
/-
  A REGION THAT DRAWS ITS ORDER: quiet operations first (reads; calls that lay memory and turn none), then a tail whose order is forced (a store): one walk in the text's order, the worlds of the quiet part a class. Over whatever program.
-/
/-
  A ROW LOADED WHOLE INSIDE A REGION THAT DRAWS ITS ORDER, as a step of the quiet walk. Over whatever program.
-/
/-
  KEYS OF TOKENS AND HOLDINGS; WHERE ONE STANDS.
-/
/-
  WHERE THE FIRST TOKEN, THE FIRST HOLDING OF A KEY STANDS.
-/
/-
  WHAT THE SMALL FUNCTIONS OF name RETURN: one contract each.
-/
/-
  WHAT name's isStray AND Runes RETURN; a text as the list of what a range over it hands out.
-/
/-
  A BYTE OF A TEXT; DIGITS OF BASE SIXTEEN.
-/
/-
  WHAT name's place RETURNS.
-/
import Derived.WalkKit
import Derived.Lib.Strings
import Derived.WalkSmall
import Derived.Laws.CopyOwn
import Derived.ChangeKeysEq
import Derived.Test.YtjfnaedcdmmigaaDoorProg
import Derived.Laws.MakeOwn
import Derived.Lib.UnsafeStr
import Derived.DeepKeys
import Derived.Laws.StructEq
import Derived.Laws.AppendOwn
import Derived.Laws.OwnMore
import Derived.Deep.MidRow
import Derived.OrdersHeld
import Derived.Laws.Rows
import Derived.Laws.Tables
import Derived.Shelf.Abstract
import Derived.Lib.SliceRun
import Derived.Deep.Quiet
import Derived.StillTail
import Derived.Below
import Derived.Lib.QuietBelow
import Derived.BigQuiet
import Derived.Deep.QuietTactic
import Derived.Deep.DeepCutAuto
import Derived.Shelf.Strings.Prefix
import Derived.Lib.OthersKept
import Derived.Laws.RangeAny
namespace Go.Proofs.YtjfnaedcdmmigaaDoor
open Go.RowKit

theorem hide {p : Prop} (h : p) : Hid p := h
theorem unhide {p : Prop} (h : Hid p) : p := h
theorem wi64 (a : Int) (h : -9223372036854775808 ≤ a) (h' : a ≤ 9223372036854775807) : IntKind.i64.wrap a = a := by
  rw [IntKind.wrap_i64]; omega
theorem wu64 (a : Int) (h : 0 ≤ a) (h' : a ≤ 18446744073709551615) : IntKind.u64.wrap a = a := by
  rw [IntKind.wrap_u64]; omega
theorem lt32 (x : BitVec 32) : x.toNat < 4294967296 := x.isLt
theorem b_and (x y : BitVec 32) : bits .and .u32 (x.toNat : Int) (y.toNat : Int) = ((x &&& y).toNat : Int) := by
  rw [u32_and_nat _ _ (lt32 x) (lt32 y)]; simp
theorem b_or (x y : BitVec 32) : bits .or .u32 (x.toNat : Int) (y.toNat : Int) = ((x ||| y).toNat : Int) := by
  rw [u32_or_nat _ _ (lt32 x) (lt32 y)]; simp
theorem b_xor (x y : BitVec 32) : bits .xor .u32 (x.toNat : Int) (y.toNat : Int) = ((x ^^^ y).toNat : Int) := by
  rw [u32_xor_nat _ _ (lt32 x) (lt32 y)]; simp
theorem b_max : IntKind.u32.max = ((BitVec.allOnes 32).toNat : Int) := by decide
theorem b_not (x : BitVec 32) : bits .xor .u32 IntKind.u32.max (x.toNat : Int) = ((~~~x).toNat : Int) := by
  rw [b_max, b_xor]; congr 2
theorem b_add (x y : BitVec 32) : ((x.toNat : Int) + (y.toNat : Int)) % 4294967296 = ((x + y).toNat : Int) := by
  rw [BitVec.toNat_add]; omega
theorem b_wadd (x y : BitVec 32) : IntKind.u32.wrap ((x.toNat : Int) + (y.toNat : Int)) = ((x + y).toNat : Int) := by
  rw [IntKind.wrap_u32', b_add]
/-- A sum of words, under a name of its own: simp does not open it. -/
def addw (x y : BitVec 32) : BitVec 32 := x + y
theorem a_mod (x y : BitVec 32) : ((x.toNat : Int) + (y.toNat : Int)) % 4294967296 = ((addw x y).toNat : Int) := b_add x y
theorem a_wrap (x y : BitVec 32) : IntKind.u32.wrap ((x.toNat : Int) + (y.toNat : Int)) = ((addw x y).toNat : Int) := b_wadd x y
theorem b_shl (x : BitVec 32) (s : Nat) : ((x.toNat : Int) * 2 ^ s) % 4294967296 = ((x <<< s).toNat : Int) := by
  rw [BitVec.toNat_shiftLeft, Nat.shiftLeft_eq]
  have e : (x.toNat : Int) * 2 ^ s = ((x.toNat * 2 ^ s : Nat) : Int) := by simp
  rw [e]; generalize x.toNat * 2 ^ s = m; omega
theorem b_shr (x : BitVec 32) (s : Nat) : (x.toNat : Int) / 2 ^ s = ((x >>> s).toNat : Int) := by
  rw [BitVec.toNat_ushiftRight, Nat.shiftRight_eq_div_pow]; push_cast; rfl
/-- The number that Go's rotation takes of a negative count. -/
theorem b_turns : ∀ n : Nat, n < 32 → 0 < n → bits BinOp.and IntKind.u64 (IntKind.u64.wrap (-(n : Int))) 31 = ((32 - n : Nat) : Int) := by decide +kernel

end Go.Proofs.YtjfnaedcdmmigaaDoor

namespace Go.Proofs.YtjfnaedcdmmigaaDoor
open Go.RowKit
set_option linter.unusedSimpArgs false

/-- A text's bytes as a Go string. -/
def str (l : List UInt8) : ByteArray := ⟨l.toArray⟩
theorem str_list (s : ByteArray) : str s.data.toList = s := by simp [str]
@[simp] theorem str_toList (l : List UInt8) : (str l).data.toList = l := by simp [str]
@[simp] theorem str_size (l : List UInt8) : (str l).size = l.length := by simp [str, ByteArray.size]
theorem size_list (s : ByteArray) : s.data.toList.length = s.size := by rw [Array.length_toList]; rfl
theorem str_inj {l m : List UInt8} (h : str l = str m) : l = m := by
  have := congrArg (fun s : ByteArray => s.data.toList) h
  simpa using this

theorem take_str (l : List UInt8) (n : Nat) : (str l).extract 0 n = str (l.take n) := by
  apply ByteArray.ext; simp [str]
theorem drop_str (l : List UInt8) (n m : Nat) (h : m = l.length) : (str l).extract n m = str (l.drop n) := by
  subst h; apply ByteArray.ext; simp [str]; exact List.take_of_length_le (by simp)
theorem append_str (l m : List UInt8) : str l ++ str m = str (l ++ m) := by
  apply ByteArray.ext; simp [str]

theorem byte_at (s : ByteArray) (k : Nat) (h : k < s.size) : s[k] = s.data.toList.getD k 0 := by
  have h' : k < s.data.size := h
  have e : s.data.toList[k]? = some s.data[k] := by simp
  rw [List.getD_eq_getElem?_getD, e]; rfl

end Go.Proofs.YtjfnaedcdmmigaaDoor

namespace Go.Proofs.YtjfnaedcdmmigaaDoor
open Go Go.RowKit

/-- 'a[i]' of an array by value whose elements take one cell. -/
theorem run_index_row {P : Program} (t e : TypeId) (n : Nat) (cs : Array Value) (k : Nat) (v : Value) (hu : P.underlying t = some (.array n e)) (he : P.plainKey e = true) (hs : (P.info? e).map (·.size) = some 1)
    (hk : k < n) (hv : cs[k]? = some v) (w : World) : (Instr.index t (.agg cs) (.int .i64 (k : Int))).run P w = .ok v w := by
  cases hq : P.info? e with
  | none => simp [hq] at hs
  | some i =>
    have hi : i.size = 1 := by simpa [hq] using hs
    have hp := run_part_plain (w := w) he (xs := cs) (off := k) hv
    simp [Instr.index, asIntOf, run_underlying hu, hk, sizeOf, typeInfo, hq, hi, hp]

/-- A copy into a row known whole: the world behind it is a letter of which all is known. -/
theorem wpList_copy_abs {P : Program} {w : World} {ops : Array Oper} {rest : List Oper} {o : Oper} {a : Act} {Q : Exit → Act → World → Prop} (hgd : o.guard = none) (d s : Operand) (dT sT : TypeId)
    (ho : o.op = .call { callee := .builtin .copy, args := #[d, s], argTypes := #[dT, sT] }) (elem : TypeId) (hu : P.underlying dT = some (.slice elem)) (hsz : (P.info? elem).map (·.size) = some 1)
    (g off dLen dCap : Nat) (ad : Addr) (sLen sCap : Nat) (hd : a.eval d = .slice (some ⟨g, off, none⟩) dLen dCap) (hs : a.eval s = .slice (some ad) sLen sCap)
    (cur : Array Value) (t : TypeId) (hg : w.heap[g]? = some (.cells cur t (0, 0))) (cs : List Value) (hn : cs.length = Nat.min sLen dLen)
    (hsrc : ∀ j v, cs[j]? = some v → w.cell? (ad.add j) = some v) (hfit : off + cs.length ≤ cur.size) (h1 : ∀ v ∈ cs, v.oneCell' = true)
    (new : Array Value) (hnew : (cur.toList.take off ++ (cs ++ cur.toList.drop (off + cs.length))).toArray = new)
    (h : ∀ w', w'.heap[g]? = some (.cells new t (0, 0)) → (∀ k, k ≠ g → w'.heap[k]? = w.heap[k]?) → w'.heap.size = w.heap.size → Below g w w' → wpList P ops Q rest (a.put o.dst (goInt cs.length)) w') :
    wpList P ops Q (o :: rest) a w := by
  refine wpList_copy_own hgd d s dT sT ho elem hu hsz g off dLen dCap ad sLen sCap hd hs cur t hg cs hn hsrc hfit h1 ?_
  rw [hnew]
  exact h _ (setRow_heap w g _ _ t _ hg) (fun k hk => setRow_other w g k _ hk) (setRow_size w g _) (below_setRow (Below.refl _ _) (Nat.le_refl _) _)

theorem src_of_row (w : World) (g : Nat) (t : TypeId) (fr : Nat × Nat) (cur : Array Value) (hg : w.heap[g]? = some (.cells cur t fr)) (cs : List Value) (hp : cs <+: cur.toList) (j : Nat) (v : Value) (hv : cs[j]? = some v) :
    w.cell? ((⟨g, 0, none⟩ : Addr).add j) = some v := by
  have hadd : (⟨g, 0, none⟩ : Addr).add j = ⟨g, j, none⟩ := by unfold Addr.add; split <;> simp_all
  rw [hadd, cell_of_row w g j cur t fr hg]
  obtain ⟨r, hr⟩ := hp
  have : cur.toList[j]? = some v := by
    rw [← hr, List.getElem?_append_left (List.getElem?_eq_some_iff.1 hv).1]; exact hv
  simpa using this
theorem al1 (w : World) (A : Obj) : (w.alloc A).heap[w.heap.size]? = some A := by show (w.heap.push A)[w.heap.size]? = _; simp
theorem al2 (w : World) (A B : Obj) : ((w.alloc A).alloc B).heap[w.heap.size]? = some A ∧ ((w.alloc A).alloc B).heap[w.heap.size + 1]? = some B := by
  refine ⟨?_, ?_⟩
  · rw [Below.heap_alloc _ _ _ (by simp), al1]
  · have := al1 (w.alloc A) B; rwa [World.size_alloc] at this
theorem al3 (w : World) (A B C : Obj) : (((w.alloc A).alloc B).alloc C).heap[w.heap.size]? = some A ∧ (((w.alloc A).alloc B).alloc C).heap[w.heap.size + 1]? = some B ∧ (((w.alloc A).alloc B).alloc C).heap[w.heap.size + 1 + 1]? = some C := by
  refine ⟨?_, ?_, ?_⟩
  · rw [Below.heap_alloc _ _ _ (by simp; omega), (al2 w A B).1]
  · rw [Below.heap_alloc _ _ _ (by simp), (al2 w A B).2]
  · have := al1 ((w.alloc A).alloc B) C; rwa [World.size_alloc, World.size_alloc] at this
theorem bel2 (w : World) (A B : Obj) : Below w.heap.size w ((w.alloc A).alloc B) := ((Below.refl _ _).alloc (Nat.le_refl _) _).alloc (by simp) _
theorem bel3 (w : World) (A B C : Obj) : Below w.heap.size w (((w.alloc A).alloc B).alloc C) := (bel2 w A B).alloc (by simp; omega) _
/-- Behind a call that kept all blocks: what lay there lies there. -/
theorem Below.at {B : Nat} {w w' : World} (h : Below B w w') {k : Nat} {o : Option Obj} (hk : k < B) (ho : w.heap[k]? = o) : w'.heap[k]? = o := (h.block k hk).trans ho

theorem bcell {W w1 : World} (hb : Below W.heap.size W w1) : (∀ b o, b < W.heap.size → w1.cell? ⟨b, o, none⟩ = W.cell? ⟨b, o, none⟩) ∧ (∀ b o, b < W.heap.size → w1.frozen? ⟨b, o, none⟩ = W.frozen? ⟨b, o, none⟩) :=
  ⟨fun b o h => hb.cell (p := ⟨b, o, none⟩) h, fun b o h => hb.frozen (p := ⟨b, o, none⟩) h⟩
/-- A block that was laid ahead of a call, behind it. -/
theorem alloc_kept {w w' : World} {c : Array Value} {t : TypeId} (hb : Below (w.alloc (.cells c t)).heap.size (w.alloc (.cells c t)) w') :
    (∀ o, w'.cell? ⟨w.heap.size, o, none⟩ = c[o]?) ∧ (∀ o, w'.frozen? ⟨w.heap.size, o, none⟩ = false) ∧ w.heap.size < w'.heap.size ∧ Hid (w'.heap[w.heap.size]? = some (.cells c t (0, 0))) := by
  have hz := hb.size
  rw [World.size_alloc] at hz
  refine ⟨fun o => ?_, fun o => ?_, by omega, (hb.block _ (by simp)).trans (al1 _ _)⟩
  · rw [hb.cell (p := ⟨w.heap.size, o, none⟩) (by simp)]; simp
  · rw [hb.frozen (p := ⟨w.heap.size, o, none⟩) (by simp)]; simp
theorem alloc_kept_drew {w w' : World} {c : Array Value} {t : TypeId} (hb : Below (w.alloc (.cells c t)).drew.heap.size (w.alloc (.cells c t)).drew w') :
    (∀ o, w'.cell? ⟨w.heap.size, o, none⟩ = c[o]?) ∧ (∀ o, w'.frozen? ⟨w.heap.size, o, none⟩ = false) ∧ w.heap.size < w'.heap.size ∧ Hid (w'.heap[w.heap.size]? = some (.cells c t (0, 0))) :=
  alloc_kept (t := t) ⟨hb.os, hb.tape, hb.output, hb.size, hb.block⟩
theorem set8 (w : World) (g : Nat) (t : TypeId) (z0 z1 z2 z3 z4 z5 z6 z7 v0 v1 v2 v3 v4 v5 v6 v7 : Value) (hg : w.heap[g]? = some (.cells #[z0, z1, z2, z3, z4, z5, z6, z7] t (0, 0))) : ((((((((w.setCell ⟨g, 0, none⟩ v0).setCell ⟨g, 1, none⟩ v1).setCell ⟨g, 2, none⟩ v2).setCell ⟨g, 3, none⟩ v3).setCell ⟨g, 4, none⟩ v4).setCell ⟨g, 5, none⟩ v5).setCell ⟨g, 6, none⟩ v6).setCell ⟨g, 7, none⟩ v7).heap[g]? = some (.cells #[v0, v1, v2, v3, v4, v5, v6, v7] t (0, 0)) := by
  have h0 : (w.setCell ⟨g, 0, none⟩ v0).heap[g]? = some (.cells #[v0, z1, z2, z3, z4, z5, z6, z7] t (0, 0)) := heap_setCell_same _ g 0 _ t v0 hg
  have h1 : ((w.setCell ⟨g, 0, none⟩ v0).setCell ⟨g, 1, none⟩ v1).heap[g]? = some (.cells #[v0, v1, z2, z3, z4, z5, z6, z7] t (0, 0)) := heap_setCell_same _ g 1 _ t v1 h0
  have h2 : (((w.setCell ⟨g, 0, none⟩ v0).setCell ⟨g, 1, none⟩ v1).setCell ⟨g, 2, none⟩ v2).heap[g]? = some (.cells #[v0, v1, v2, z3, z4, z5, z6, z7] t (0, 0)) := heap_setCell_same _ g 2 _ t v2 h1
  have h3 : ((((w.setCell ⟨g, 0, none⟩ v0).setCell ⟨g, 1, none⟩ v1).setCell ⟨g, 2, none⟩ v2).setCell ⟨g, 3, none⟩ v3).heap[g]? = some (.cells #[v0, v1, v2, v3, z4, z5, z6, z7] t (0, 0)) := heap_setCell_same _ g 3 _ t v3 h2
  have h4 : (((((w.setCell ⟨g, 0, none⟩ v0).setCell ⟨g, 1, none⟩ v1).setCell ⟨g, 2, none⟩ v2).setCell ⟨g, 3, none⟩ v3).setCell ⟨g, 4, none⟩ v4).heap[g]? = some (.cells #[v0, v1, v2, v3, v4, z5, z6, z7] t (0, 0)) := heap_setCell_same _ g 4 _ t v4 h3
  have h5 : ((((((w.setCell ⟨g, 0, none⟩ v0).setCell ⟨g, 1, none⟩ v1).setCell ⟨g, 2, none⟩ v2).setCell ⟨g, 3, none⟩ v3).setCell ⟨g, 4, none⟩ v4).setCell ⟨g, 5, none⟩ v5).heap[g]? = some (.cells #[v0, v1, v2, v3, v4, v5, z6, z7] t (0, 0)) := heap_setCell_same _ g 5 _ t v5 h4
  have h6 : (((((((w.setCell ⟨g, 0, none⟩ v0).setCell ⟨g, 1, none⟩ v1).setCell ⟨g, 2, none⟩ v2).setCell ⟨g, 3, none⟩ v3).setCell ⟨g, 4, none⟩ v4).setCell ⟨g, 5, none⟩ v5).setCell ⟨g, 6, none⟩ v6).heap[g]? = some (.cells #[v0, v1, v2, v3, v4, v5, v6, z7] t (0, 0)) := heap_setCell_same _ g 6 _ t v6 h5
  have h7 : ((((((((w.setCell ⟨g, 0, none⟩ v0).setCell ⟨g, 1, none⟩ v1).setCell ⟨g, 2, none⟩ v2).setCell ⟨g, 3, none⟩ v3).setCell ⟨g, 4, none⟩ v4).setCell ⟨g, 5, none⟩ v5).setCell ⟨g, 6, none⟩ v6).setCell ⟨g, 7, none⟩ v7).heap[g]? = some (.cells #[v0, v1, v2, v3, v4, v5, v6, v7] t (0, 0)) := heap_setCell_same _ g 7 _ t v7 h6
  exact h7
/-- A row of memory and a slot as the two results. -/
theorem results_row_tmp {P : Program} {fn : Func} {p u : Tmp} {ty : TypeId} (h : fn.results = #[.cell p ty, .tmp u]) (tmps : Array Value) (w : World) (g : Nat) (t : TypeId) (cs : Array Value) (fr : Nat × Nat) (d : TypeDesc)
    (hp : tmps.getD p undef = .pointer (some ⟨g, 0, none⟩)) (hg : w.heap[g]? = some (.cells cs t fr))
    (hu : P.underlying ty = some d) (hd : (match d with | .struct _ | .array _ _ => true | _ => false) = true) (hi : (P.info? ty).map (·.size) = some cs.size) :
    (results fn tmps).run P w = .ok (.tuple #[.agg cs, tmps.getD u undef]) w := by
  rw [results_cell_tmp h, hp]
  simp only [asAddr, Sem.run_pure, Result.andThen_ok, run_loadVar_row w g t ty cs fr d hg hu hd hi]

end Go.Proofs.YtjfnaedcdmmigaaDoor

namespace Go.Proofs.YtjfnaedcdmmigaaDoor
open Go.RowKit
set_option linter.unusedSimpArgs false

theorem mixed : Tryd.prog.follows .mixedOrders = true := by kernel_rfl
/-- Bytes as cells. -/
def bc (l : List UInt8) : Array Value := (Lib.byteCells l).toArray
@[simp] theorem bc_size (l : List UInt8) : (bc l).size = l.length := by simp [bc, Lib.byteCells]
theorem bc_at (l : List UInt8) (j : Nat) (h : j < l.length) : (bc l)[j]? = some (.int .u8 ((l.getD j 0).toNat : Int)) := by
  simp [bc, Lib.byteCells, h]
theorem bc_set (l m : List UInt8) (z x : UInt8) (i : Nat) (hi : i = l.length) : (bc (l ++ z :: m)).setIfInBounds i (.int .u8 (x.toNat : Int)) = bc (l ++ [x] ++ m) := by
  subst hi
  simp only [bc, Lib.byteCells, List.map_append, List.map_cons, List.setIfInBounds_toArray, List.append_assoc, List.cons_append, List.nil_append]
  congr 1
  rw [List.set_append_right _ _ (by simp)]
  simp
theorem bc_oneCell (l : List UInt8) : (bc l).all (·.oneCell') = true := by
  simp [bc, Lib.byteCells, Value.oneCell']
theorem made_bytes (n : Nat) : madeCells #[Value.int .u8 0] n = bc (List.replicate n 0) := by
  apply Array.ext
  · simp [size_madeCells]
  · intro i h1 h2
    simp [madeCells, bc, Lib.byteCells]
    rw [Nat.mod_one]; rfl

theorem byte_mod (m s : Nat) : (m : Int) / 2 ^ s % 256 = ((UInt8.ofNat (m / 2 ^ s)).toNat : Int) := by
  have e : (m : Int) / 2 ^ s = ((m / 2 ^ s : Nat) : Int) := by rw [Int.natCast_ediv, Int.natCast_pow]; rfl
  rw [e, UInt8.toNat_ofNat']
  generalize m / 2 ^ s = q
  show (q : Int) % 256 = ((q % 256 : Nat) : Int)
  omega
theorem take_snoc' {α : Type} (l : List α) (k : Nat) (d : α) (h : k < l.length) : l.take (k + 1) = l.take k ++ [l.getD k d] := by
  rw [List.take_succ_eq_append_getElem h]; simp [h]

theorem make_bytes (n : Nat) (h : n ≤ 140737488355328) (w : World) : (Instr.makeSlice 167 (.int .i64 (n : Int)) (.int .i64 (n : Int))).run Tryd.prog w = .ok (.slice (some ⟨w.heap.size, 0, none⟩) n n) (w.alloc (.cells (bc (List.replicate n 0)) 5)) := by
  obtain ⟨i, hi⟩ : ∃ i, Tryd.prog.info? 5 = some i := by
    cases hq : Tryd.prog.info? 5 with
    | none => exact absurd hq (by rw [show Tryd.prog.info? 5 = some ((Tryd.prog.info? 5).getD default) by kernel_rfl]; simp)
    | some i => exact ⟨i, rfl⟩
  have e : (Tryd.prog.info? 5).map (fun i => (i.zero, i.size, i.bytes)) = some (some (.int .u8 0), 1, 1) := by kernel_rfl
  rw [hi] at e
  simp only [Option.map_some, Option.some.injEq, Prod.mk.injEq] at e
  obtain ⟨e1, e2, e3⟩ := e
  have := run_make (P := Tryd.prog) w 167 5 i (.int .u8 0) Tryd.underlying167 hi e1 .i64 .i64 n n (by omega) (by omega) (by rw [e3]; omega) (by omega)
  rw [this, e2]
  simp only [Int.toNat_natCast, Nat.mul_one]
  rw [show (Value.int IntKind.u8 0).cells = #[Value.int .u8 0] from rfl, made_bytes]

end Go.Proofs.YtjfnaedcdmmigaaDoor

namespace Go.Proofs.YtjfnaedcdmmigaaDoor
open Go Go.RowKit

theorem mapM_some {α β : Type} (f : α → Option β) (g : α → β) (l : List α) (h : ∀ x ∈ l, f x = some (g x)) : l.mapM f = some (l.map g) := by
  induction l with
  | nil => rfl
  | cons x l ih =>
    rw [List.mapM_cons, h x (by simp), ih (fun y hy => h y (by simp [hy]))]; rfl

/-- The data of an array of integers. -/
theorem keyLits_ints {P : Program} (t e : TypeId) (n : Nat) (k : IntKind) (hu : P.underlying t = some (.array n e)) (he : P.underlying e = some (.int k)) (hce : P.cellsOf e = 1) (hct : P.cellsOf t = n)
    (zs : List Int) (hl : zs.length = n) (hw : ∀ z ∈ zs, (Lit.int k z).wf = true) : ∃ la, P.keyLits 2 t (zs.map (Value.int k)) = some la := by
  unfold Program.keyLits
  simp only [hu]
  rw [if_pos (by simp [hl, hct])]
  rw [mapM_some _ (fun i => [Lit.int k (zs.getD i 0)]) _ (fun i hi => ?_)]
  · exact ⟨_, rfl⟩
  · have hi' : i < zs.length := by rw [hl]; exact List.mem_range.1 hi
    rw [hce, Nat.mul_one, List.drop_eq_getElem_cons (by simpa using hi')]
    unfold Program.keyLits
    simp only [he]
    have hz : (Lit.int k zs[i]).wf = true := hw _ (List.getElem_mem _)
    simp [hz, hi']

theorem equalIn_refl {P : Program} (t : TypeId) (m D : Nat) (hm : m ≤ 10000) (hk : P.keyTypeAt m t = true) (cs : Array Value) (hf : (Value.agg cs).formed P t = true) (la : List Lit) (hla : P.keyLits D t cs.toList = some la) (w : World) :
    (Op.equalIn 10000 t (.agg cs) (.agg cs)).run P w = .ok true w := by
  obtain ⟨r, hr, hiff⟩ := run_equalIn_deep (P := P) (10000 - m) m t hk w D D (.agg cs) (.agg cs) la la hf hf hla hla
  rw [show 10000 - m + m = 10000 by omega] at hr
  obtain rfl : r = true := hiff.2 rfl
  exact hr
/-- A value of such a type equals itself. -/
theorem eql_refl {P : Program} (t : TypeId) (m D : Nat) (hm : m ≤ 10000) (hk : P.keyTypeAt m t = true) (cs : Array Value) (hf : (Value.agg cs).formed P t = true) (la : List Lit) (hla : P.keyLits D t cs.toList = some la) (w : World) :
    (binOp .eql t (.agg cs) (.agg cs)).run P w = .ok (.bool true) w := by
  obtain ⟨r, hr, hiff⟩ := run_equalIn_deep (P := P) (10000 - m) m t hk w D D (.agg cs) (.agg cs) la la hf hf hla hla
  rw [show 10000 - m + m = 10000 by omega] at hr
  obtain rfl : r = true := hiff.2 rfl
  rw [run_eql_struct, hr]; rfl

end Go.Proofs.YtjfnaedcdmmigaaDoor

namespace Go.Proofs.YtjfnaedcdmmigaaDoor
open Go Go.RowKit
set_option linter.unusedSimpArgs false
set_option linter.unusedVariables false

def One (X : Value) : Prop := (∃ i : Int, X = .int .i64 i) ∨ ∃ t, X = .string t
/-- A list of values, a cell each, in memory. -/
def VL (w : World) (p : Option Addr) (xs : List Value) : Prop :=
  xs ≠ [] → ∃ b off, p = some ⟨b, off, none⟩ ∧ b < w.heap.size ∧ ∀ i, i < xs.length → w.cell? ⟨b, off + i, none⟩ = xs[i]?
theorem VL.below {w w' : World} {B : Nat} {p : Option Addr} {xs : List Value} (h : VL w p xs) (hb : Below B w w') (hB : w.heap.size ≤ B) : VL w' p xs := by
  intro hn
  obtain ⟨b, off, rfl, hl, hc⟩ := h hn
  exact ⟨b, off, rfl, Nat.lt_of_lt_of_le hl hb.size, fun i hi => by rw [hb.cell (p := ⟨b, off + i, none⟩) (Nat.lt_of_lt_of_le hl hB)]; exact hc i hi⟩
theorem VL.drop {w : World} {b off : Nat} {xs : List Value} (h : VL w (some ⟨b, off, none⟩) xs) (k : Nat) : VL w (some ⟨b, off + k, none⟩) (xs.drop k) := by
  intro hn
  obtain ⟨b', off', e, hl, hc⟩ := h (by intro h0; rw [h0] at hn; simp at hn)
  cases e
  refine ⟨b, off + k, rfl, hl, fun i hi => ?_⟩
  rw [List.length_drop] at hi
  rw [Nat.add_assoc, hc (k + i) (by omega), List.getElem?_drop]
theorem VL.mapAdd {w : World} {p : Option Addr} {xs : List Value} (h : VL w p xs) (k : Nat) : VL w (p.map (fun x => x.add k)) (xs.drop k) := by
  cases p with
  | none =>
    intro hn
    obtain ⟨_, _, e, _⟩ := h (by intro h0; rw [h0] at hn; simp at hn)
    cases e
  | some a =>
    intro hn
    obtain ⟨b', off', e, _⟩ := h (by intro h0; rw [h0] at hn; simp at hn)
    cases e
    have h2 := h.drop k hn
    rw [Option.map_some, show (⟨b', off', none⟩ : Addr).add k = ⟨b', off' + k, none⟩ by unfold Addr.add; split <;> simp_all]
    exact h2
theorem VL.take {w : World} {p : Option Addr} {xs : List Value} (h : VL w p xs) (k : Nat) : VL w p (xs.take k) := by
  intro hn
  obtain ⟨b', off', e, hl, hc⟩ := h (by intro h0; rw [h0] at hn; simp at hn)
  refine ⟨b', off', e, hl, fun i hi => ?_⟩
  rw [List.length_take] at hi
  rw [hc i (by omega), List.getElem?_take, if_pos (by omega)]
theorem VL_of_owns {base : Nat} {w : World} {t : TypeId} {v : Value} {n : Nat} {xs : List Value} (hn : xs.length = n) (h : w.ownsRow base t 1 v n xs) : ∃ p c, v = .slice p n c ∧ VL w p xs := by
  rcases h.2 with ⟨rfl, h0⟩ | ⟨g, cap, cur, rfl, _, hg, _, _, _, ht⟩
  · exact ⟨none, 0, by rw [h0], fun hx => absurd (List.length_eq_zero_iff.1 (hn.trans h0)) hx⟩
  · refine ⟨_, cap, rfl, fun _ => ⟨g, 0, rfl, (Array.getElem?_eq_some_iff.1 hg).1, fun i hi => ?_⟩⟩
    rw [Nat.zero_add, cell_of_row _ _ _ _ _ _ hg]
    have h1 : (cur.toList.take (n * 1))[i]? = xs[i]? := by rw [ht]
    rw [List.getElem?_take, if_pos (by omega)] at h1
    simpa using h1
theorem owns_cap {base : Nat} {w : World} {t : TypeId} {p : Option Addr} {n c s m : Nat} {xs : List Value} (h : w.ownsRow base t s (.slice p n c) m xs) : n ≤ c ∧ (p = none → c = 0) := by
  rcases h.2 with ⟨e, _⟩ | ⟨g, cap, cur, e, _, _, hc, _⟩
  · simp only [Value.slice.injEq] at e
    obtain ⟨rfl, rfl, rfl⟩ := e
    exact ⟨Nat.le_refl _, fun _ => rfl⟩
  · simp only [Value.slice.injEq] at e
    obtain ⟨rfl, rfl, rfl⟩ := e
    exact ⟨hc, fun h => by cases h⟩
theorem vowns_below {B : Nat} {w w' : World} {t : TypeId} {s n : Nat} {v : Value} {xs : List Value} (h : w.ownsRow B t s v n xs) (hb : Below w.heap.size w w') : w'.ownsRow B t s v n xs := by
  obtain ⟨h1, h2⟩ := h
  refine ⟨h1, ?_⟩
  rcases h2 with h2 | ⟨g, cap, cur, rfl, hB, hg, hc, hm, hs, ht⟩
  · exact .inl h2
  · exact .inr ⟨g, cap, cur, rfl, hB, Below.at hb (Array.getElem?_eq_some_iff.1 hg).1 hg, hc, hm, hs, ht⟩
theorem vowns_base {B C : Nat} {w : World} {t : TypeId} {s n : Nat} {v : Value} {xs : List Value} (h : w.ownsRow B t s v n xs) (hC : C ≤ B) : w.ownsRow C t s v n xs := by
  obtain ⟨h1, h2⟩ := h
  refine ⟨h1, ?_⟩
  rcases h2 with h2 | ⟨g, cap, cur, rfl, hB, hg, hc, hm, hs, ht⟩
  · exact .inl h2
  · exact .inr ⟨g, cap, cur, rfl, by omega, hg, hc, hm, hs, ht⟩
theorem rowInfoV {P : Program} {e : TypeId} {s b : Nat} (hi : (P.info? e).map (fun i => (i.size, i.bytes, i.zero.map (·.cells.size))) = some (s, b, some s)) : ∃ i z, P.info? e = some i ∧ i.zero = some z ∧ i.size = s ∧ i.bytes = b ∧ z.cells.size = s := by
  cases hq : P.info? e with
  | none => rw [hq] at hi; cases hi
  | some i =>
    rw [hq] at hi
    simp only [Option.map_some, Option.some.injEq, Prod.mk.injEq] at hi
    obtain ⟨h1, h2, h3⟩ := hi
    cases hz : i.zero with
    | none => rw [hz] at h3; cases h3
    | some z => rw [hz] at h3; simp only [Option.map_some, Option.some.injEq] at h3; exact ⟨i, z, rfl, hz, h1, h2, h3⟩
theorem VL.cells {w : World} {ad : Addr} {xs : List Value} (h : VL w (some ad) xs) (j : Nat) (u : Value) (hu : xs[j]? = some u) : w.cell? (ad.add j) = some u := by
  have hj := (List.getElem?_eq_some_iff.1 hu).1
  obtain ⟨b, off, e, _, hc⟩ := h (by intro h0; rw [h0] at hj; simp at hj)
  cases e
  rw [show (⟨b, off, none⟩ : Addr).add j = ⟨b, off + j, none⟩ by unfold Addr.add; split <;> simp_all, hc j hj, hu]
theorem One.one {u : Value} (h : One u) : u.oneCell' = true := by rcases h with ⟨i, rfl⟩ | ⟨t, rfl⟩ <;> rfl
theorem wpList_append_v {P : Program} {ops : Array Oper} {rest : List Oper} {o : Oper} {a : Act} {Q : Exit → Act → World → Prop} (w : World) (hgd : o.guard = none) (t e : TypeId) (sx x : Operand)
    (ho : o.op = .call { callee := .builtin .append, args := #[sx, x], argTypes := #[t, t] }) (hu : P.underlying t = some (.slice e)) {by_ : Nat} (hi : (P.info? e).map (fun i => (i.size, i.bytes, i.zero.map (·.cells.size))) = some (1, by_, some 1)) (hby : by_ ≤ 16)
    (base : Nat) (v : Value) (n : Nat) (xs : List Value) (hv : a.eval sx = v) (hown : w.ownsRow base e 1 v n xs) (hb : base ≤ w.heap.size) (B : List Value) (m : Nat) (hm : B.length = m) (hO : ∀ u ∈ B, One u) (ad : Addr) (c : Nat) (hB : VL w (some ad) B)
    (hx : a.eval x = .slice (some ad) m c) (hlen : n + m ≤ 1048576)
    (h : ∀ v' w', w'.ownsRow base e 1 v' (n + m) (xs ++ B) → Below base w w' → wpList P ops Q rest (a.put o.dst v') w') : wpList P ops Q (o :: rest) a w := by
  obtain ⟨i, z, hie, hz, e1, e2, e3⟩ := rowInfoV hi
  refine wpList_append_own _ hgd sx x t ho base e i z 1 by_ hu hie hz e1 e2 e3 (by omega) v n xs hv hown ad m c B hx (by omega) hB.cells (fun u hu => (hO u hu).one) (by unfold maxLen; omega) (Nat.le_trans (Nat.mul_le_mul hlen hby) (by decide)) hb ?_
  intro v' w' ho' hg _
  refine h v' w' ho' ⟨hg.os, hg.tape, hg.output, hg.size, fun k hk => hg.block k (by omega) ?_⟩
  intro hc'
  have := (hown.lt k hc'.symm).1
  omega
theorem toList_eqQ (l m : List UInt8) : ((str l).toList = (str m).toList) = (l = m) := by rw [ByteArray.toList_eq, ByteArray.toList_eq, str_toList, str_toList]
theorem VL_one (w : World) (X : Value) (t : TypeId) : VL (w.alloc (.cells #[X] t)) (some ⟨w.heap.size, 0, none⟩) [X] := by
  intro _
  refine ⟨w.heap.size, 0, rfl, by simp, fun i hi => ?_⟩
  have h0 : i = 0 := by simpa using hi
  subst h0
  rw [show (⟨w.heap.size, 0 + 0, none⟩ : Addr) = ⟨w.heap.size, 0, none⟩ by rfl, cell_of_row _ _ 0 _ _ _ (al1 w (.cells #[X] t))]
  rfl
def ixO {α : Type} [DecidableEq α] (x : α) (l : List α) : Nat := l.idxOf x
theorem ixO_lt {α : Type} [DecidableEq α] {x : α} {l : List α} (h : x ∈ l) : ixO x l < l.length := List.idxOf_lt_length_of_mem h
/-- The last ones, at most m. -/
def pTrim {α : Type} (l : List α) (m : Int) : List α := l.drop (l.length - m.toNat)
/-- What Push answers. -/
def pPushL {α : Type} (xs : List α) (x : α) (m : Int) : List α := if m ≤ (xs.length : Int) then xs else xs ++ [x]
def pPushE (n : Nat) (m : Int) : Int := if m ≤ (n : Int) then 6 else 0
/-- What stands behind the first x; all, where there is none. -/
def pThr {α : Type} [DecidableEq α] (x : α) (l : List α) : List α := if x ∈ l then l.drop (ixO x l + 1) else l
/-- The place of the first x; -1. -/
noncomputable def pAt {α : Type} [DecidableEq α] (x : α) (l : List α) : Int := if x ∈ l then (ixO x l : Int) else -1
theorem pAt_hit {α : Type} [DecidableEq α] (x : α) : ∀ (l : List α) (j : Nat), l[j]? = some x → (∀ i, i < j → l[i]? ≠ some x) → pAt x l = (j : Int)
  | [], j, h, _ => by simp at h
  | y :: l, 0, h, _ => by simp at h; subst h; simp [pAt, ixO]
  | y :: l, j + 1, h, hn => by
    have h0 : y ≠ x := fun e => hn 0 (by omega) (by simp [e])
    have h1 := pAt_hit x l j (by simpa using h) (fun i hi => by have := hn (i + 1) (by omega); simpa using this)
    have hm : x ∈ l := by
      have : l[j]? = some x := by simpa using h
      exact List.mem_of_getElem? this
    unfold pAt ixO at h1 ⊢
    rw [if_pos hm] at h1
    rw [if_pos (by simp [hm]), List.idxOf_cons, (by simpa using h0 : (y == x) = false)]
    simp; omega
theorem pAt_miss {α : Type} [DecidableEq α] (x : α) (l : List α) (hn : ∀ i, i < l.length → l[i]? ≠ some x) : pAt x l = -1 := by
  unfold pAt
  rw [if_neg]
  intro hm
  obtain ⟨i, hi, he⟩ := List.getElem_of_mem hm
  exact hn i hi (by rw [List.getElem?_eq_getElem hi, he])
theorem pAt_ge {α : Type} [DecidableEq α] (x : α) (l : List α) : -1 ≤ pAt x l ∧ (pAt x l < l.length ∨ l = []) := by
  unfold pAt
  split
  · next h => have := ixO_lt h; omega
  · next h => refine ⟨by omega, ?_⟩; cases l with
    | nil => right; rfl
    | cons => left; simp; omega
theorem pAt_neg {α : Type} [DecidableEq α] (x : α) (l : List α) : pAt x l < 0 ↔ x ∉ l := by
  unfold pAt
  split <;> simp_all <;> omega
end Go.Proofs.YtjfnaedcdmmigaaDoor

namespace Go.Proofs.YtjfnaedcdmmigaaDoor
open Go Go.RowKit
set_option linter.unusedSimpArgs false
set_option linter.unusedVariables false

structure Tkn where
  o : Nat
  n : List UInt8
  cap : Nat
  lk : Nat
  ul : Nat
  mi : Nat
  bu : Nat
structure Hol where
  o : Nat
  n : List UInt8
  w : List UInt8
  a : Nat
instance : Inhabited Tkn := ⟨⟨0, [], 0, 0, 0, 0, 0⟩⟩
instance : Inhabited Hol := ⟨⟨0, [], [], 0⟩⟩
def tokC (t : Tkn) : List Value := [.int .u32 (t.o : Int), .string (str t.n), .int .u64 (t.cap : Int), .int .u64 (t.lk : Int), .int .u64 (t.ul : Int), .int .u64 (t.mi : Int), .int .u64 (t.bu : Int)]
def holC (h : Hol) : List Value := [.int .u32 (h.o : Int), .string (str h.n), .string (str h.w), .int .u64 (h.a : Int)]
theorem tokC_len (t : Tkn) : (tokC t).length = 7 := rfl
theorem holC_len (h : Hol) : (holC h).length = 4 := rfl
theorem tokC_one (t : Tkn) : ∀ u ∈ tokC t, u.oneCell' = true := by intro u hu; simp [tokC] at hu; rcases hu with rfl | rfl | rfl | rfl | rfl | rfl | rfl <;> rfl
theorem holC_one (t : Hol) : ∀ u ∈ holC t, u.oneCell' = true := by intro u hu; simp [holC] at hu; rcases hu with rfl | rfl | rfl | rfl <;> rfl
def Tkn.ok (t : Tkn) : Prop := t.o < 4294967296 ∧ t.n.length ≤ 1000 ∧ t.cap < 18446744073709551616 ∧ t.lk < 18446744073709551616 ∧ t.ul < 18446744073709551616 ∧ t.mi < 18446744073709551616 ∧ t.bu < 18446744073709551616
def Hol.ok (h : Hol) : Prop := h.o < 4294967296 ∧ h.n.length ≤ 1000 ∧ h.w.length ≤ 1000 ∧ h.a < 18446744073709551616
theorem Tkn.eq_of {a b : Tkn} (h : tokC a = tokC b) : a = b := by
  obtain ⟨o, n, c1, c2, c3, c4, c5⟩ := a
  obtain ⟨o', n', d1, d2, d3, d4, d5⟩ := b
  simp only [tokC, List.cons.injEq, Value.int.injEq, Value.string.injEq, true_and, and_true, Int.natCast_inj] at h
  obtain ⟨h1, h2, h3, h4, h5, h6, h7⟩ := h
  rw [h1, str_inj h2, h3, h4, h5, h6, h7]

/-- Where the first one of a kind stands; -1. -/
def pIx {α : Type} (p : α → Bool) (xs : List α) : Int := if xs.findIdx p < xs.length then (xs.findIdx p : Int) else -1
theorem pIx_hit {α : Type} (p : α → Bool) (xs : List α) (j : Nat) (x : α) (hx : xs[j]? = some x) (h : p x = true) (hn : ∀ i, i < j → ∀ y, xs[i]? = some y → p y = false) : pIx p xs = (j : Int) ∧ j < xs.length := by
  obtain ⟨hj, he⟩ := List.getElem?_eq_some_iff.1 hx
  have h1 : xs.findIdx p = j := (List.findIdx_eq hj).2 ⟨by rw [he]; exact h, fun i hi => hn i hi _ (List.getElem?_eq_getElem _)⟩
  unfold pIx
  rw [h1, if_pos hj]
  exact ⟨rfl, hj⟩
theorem pIx_miss {α : Type} (p : α → Bool) (xs : List α) (hn : ∀ i, i < xs.length → ∀ y, xs[i]? = some y → p y = false) : pIx p xs = -1 := by
  unfold pIx
  rw [if_neg]
  intro h
  have := List.findIdx_getElem (w := h)
  rw [hn _ h _ (List.getElem?_eq_getElem h)] at this
  cases this
theorem pIx_cases {α : Type} (p : α → Bool) (xs : List α) : (pIx p xs = -1 ∧ ∀ x ∈ xs, p x = false) ∨ ∃ (j : Nat) (x : α), pIx p xs = (j : Int) ∧ xs[j]? = some x ∧ p x = true ∧ ∀ i, i < j → ∀ y, xs[i]? = some y → p y = false := by
  unfold pIx
  by_cases h : xs.findIdx p < xs.length
  · refine .inr ⟨xs.findIdx p, xs[xs.findIdx p], by rw [if_pos h], List.getElem?_eq_getElem h, List.findIdx_getElem (w := h), fun i hi y hy => ?_⟩
    obtain ⟨hl, he⟩ := List.getElem?_eq_some_iff.1 hy
    have := List.not_of_lt_findIdx hi
    rw [he] at this
    simpa using this
  · refine .inl ⟨by rw [if_neg h], fun x hx => ?_⟩
    cases hp : p x with
    | false => rfl
    | true => exact absurd (List.findIdx_lt_length_of_exists ⟨x, hx, hp⟩) h

/-- A list of structs in memory. -/
def EL {α : Type} (enc : α → List Value) (w : World) (p : Option Addr) (xs : List α) : Prop := VL w p (xs.flatMap enc)
theorem EL.below {α : Type} {enc : α → List Value} {w w' : World} {p : Option Addr} {xs : List α} (h : EL enc w p xs) (hb : Below w.heap.size w w') : EL enc w' p xs := VL.below h hb (Nat.le_refl _)
theorem flatE_len {α : Type} {enc : α → List Value} {k : Nat} (he : ∀ x, (enc x).length = k) : ∀ xs : List α, (xs.flatMap enc).length = xs.length * k
  | [] => by simp
  | x :: xs => by rw [List.flatMap_cons, List.length_append, he, flatE_len he xs, List.length_cons, Nat.succ_mul]; omega
theorem flatE_at {α : Type} {enc : α → List Value} {k : Nat} (he : ∀ x, (enc x).length = k) : ∀ (xs : List α) (j i : Nat) (x : α), xs[j]? = some x → i < k → (xs.flatMap enc)[j * k + i]? = (enc x)[i]?
  | [], j, i, x, h, _ => by simp at h
  | y :: xs, 0, i, x, h, hi => by
    simp at h; subst h
    rw [List.flatMap_cons, Nat.zero_mul, Nat.zero_add, List.getElem?_append_left (by rw [he]; exact hi)]
  | y :: xs, j + 1, i, x, h, hi => by
    rw [List.flatMap_cons, List.getElem?_append_right (by rw [he, Nat.succ_mul]; omega), he, show (j + 1) * k + i - k = j * k + i by rw [Nat.succ_mul]; omega]
    exact flatE_at he xs j i x (by simpa using h) hi
theorem EL.row {α : Type} {enc : α → List Value} {k : Nat} (he : ∀ x, (enc x).length = k) (hk : 0 < k) {w : World} {p : Option Addr} {xs : List α} (h : EL enc w p xs) {j : Nat} {x : α} (hx : xs[j]? = some x) :
    ∃ b off, p = some ⟨b, off, none⟩ ∧ b < w.heap.size ∧ w.rangeAt b (off + j * k) (enc x) := by
  have hj := (List.getElem?_eq_some_iff.1 hx).1
  have hl := flatE_len he xs
  have h2 : j * k + k ≤ xs.length * k := by rw [← Nat.succ_mul]; exact Nat.mul_le_mul_right k hj
  obtain ⟨b, off, rfl, hb, hc⟩ := h (by intro h0; rw [h0] at hl; simp at hl; omega)
  refine ⟨b, off, rfl, hb, fun i v hv => ?_⟩
  have hi : i < k := by have := (List.getElem?_eq_some_iff.1 hv).1; rw [he] at this; exact this
  rw [Nat.add_assoc, hc (j * k + i) (by omega), flatE_at he xs j i x hx hi]
  exact hv
theorem EL_of_owns {α : Type} {enc : α → List Value} {k : Nat} (he : ∀ x, (enc x).length = k) {base : Nat} {w : World} {t : TypeId} {v : Value} {xs : List α} (h : w.ownsRow base t k v xs.length (xs.flatMap enc)) : ∃ p c, v = .slice p xs.length c ∧ EL enc w p xs := by
  have hl := flatE_len he xs
  rcases h.2 with ⟨rfl, h0⟩ | ⟨g, cap, cur, rfl, _, hg, _, _, _, ht⟩
  · refine ⟨none, 0, by rw [h0], fun hx => absurd ?_ hx⟩
    rw [List.length_eq_zero_iff.1 h0]; rfl
  · refine ⟨_, cap, rfl, fun _ => ⟨g, 0, rfl, (Array.getElem?_eq_some_iff.1 hg).1, fun i hi => ?_⟩⟩
    rw [Nat.zero_add, cell_of_row _ _ _ _ _ _ hg]
    have h1 : (cur.toList.take (xs.length * k))[i]? = (xs.flatMap enc)[i]? := by rw [ht]
    rw [List.getElem?_take, if_pos (by omega)] at h1
    simpa using h1
theorem wpList_append_e {P : Program} {ops : Array Oper} {rest : List Oper} {o : Oper} {a : Act} {Q : Exit → Act → World → Prop} (w : World) (hgd : o.guard = none) (t e : TypeId) (sx x : Operand)
    (ho : o.op = .call { callee := .builtin .append, args := #[sx, x], argTypes := #[t, t] }) (hu : P.underlying t = some (.slice e)) {s by_ : Nat} (hs0 : 0 < s) (hi : (P.info? e).map (fun i => (i.size, i.bytes, i.zero.map (·.cells.size))) = some (s, by_, some s)) (hby : by_ ≤ 64)
    (base : Nat) (v : Value) (n : Nat) (xs : List Value) (hv : a.eval sx = v) (hown : w.ownsRow base e s v n xs) (hb : base ≤ w.heap.size) (B : List Value) (m : Nat) (hm : B.length = m * s) (hO : ∀ u ∈ B, u.oneCell' = true) (ad : Addr) (c : Nat) (hB : VL w (some ad) B)
    (hx : a.eval x = .slice (some ad) m c) (hlen : n + m ≤ 1048576)
    (h : ∀ v' w', w'.ownsRow base e s v' (n + m) (xs ++ B) → w.grownBy w' v.ownBlock → Below base w w' → wpList P ops Q rest (a.put o.dst v') w') : wpList P ops Q (o :: rest) a w := by
  obtain ⟨i, z, hie, hz, e1, e2, e3⟩ := rowInfoV hi
  refine wpList_append_own _ hgd sx x t ho base e i z s by_ hu hie hz e1 e2 e3 hs0 v n xs hv hown ad m c B hx (by omega) hB.cells hO (by unfold maxLen; omega) (Nat.le_trans (Nat.mul_le_mul hlen hby) (by decide)) hb ?_
  intro v' w' ho' hg _
  refine h v' w' ho' hg ⟨hg.os, hg.tape, hg.output, hg.size, fun k hk => hg.block k (by omega) ?_⟩
  intro hc'
  have := (hown.lt k hc'.symm).1
  omega
theorem flat_one {α : Type} {enc : α → List Value} (h1 : ∀ x, ∀ u ∈ enc x, u.oneCell' = true) (xs : List α) : ∀ u ∈ xs.flatMap enc, u.oneCell' = true := by
  intro u hu
  obtain ⟨x, _, hx⟩ := List.mem_flatMap.1 hu
  exact h1 x u hx
end Go.Proofs.YtjfnaedcdmmigaaDoor

namespace Go.Proofs.YtjfnaedcdmmigaaDoor
open Go Go.RowKit

theorem wpOp_list {P : Program} {ops : Array Oper} {Q : Exit → Act → World → Prop} {i : Nat} {o : Oper} {K : Act → World → Prop} {a : Act} {w : World} (hi : ops[i]? = some o) (h : wpList P ops (Exit.then K Q) [o] a w) : wpOp P ops Q i K a w := by
  unfold wpOp
  simp only [hi]
  exact h
/-- Whichever of those that may come up comes up, walked as a list of one. -/
theorem wpAnyH_one {P : Program} {md : Region.Mode} {ops : Array Oper} {Q : Exit → Act → World → Prop} {S : World → Prop} {fuel : Nat} {listed : Array Bool} {a : Act} {w : World} (i : Nat) (o : Oper) (hr : Region.ready md ops listed = [i]) (hi : ops[i]? = some o)
    (h : wpList P ops (Exit.then (fun a' w' => S w' ∧ wpAnyH P md ops Q S fuel (listed.setIfInBounds i true) a' w') Q) [o] a w) : wpAnyH P md ops Q S (fuel + 1) listed a w :=
  wpAnyH_all hr (by simp) fun j hj => by
    obtain rfl : j = i := by simpa using hj
    exact wpOp_list hi h
theorem wpAnyH_two {P : Program} {md : Region.Mode} {ops : Array Oper} {Q : Exit → Act → World → Prop} {S : World → Prop} {fuel : Nat} {listed : Array Bool} {a : Act} {w : World} (i k : Nat) (o u : Oper) (hr : Region.ready md ops listed = [i, k]) (hi : ops[i]? = some o) (hk : ops[k]? = some u)
    (h : wpList P ops (Exit.then (fun a' w' => S w' ∧ wpAnyH P md ops Q S fuel (listed.setIfInBounds i true) a' w') Q) [o] a w)
    (h' : wpList P ops (Exit.then (fun a' w' => S w' ∧ wpAnyH P md ops Q S fuel (listed.setIfInBounds k true) a' w') Q) [u] a w) : wpAnyH P md ops Q S (fuel + 1) listed a w :=
  wpAnyH_all hr (by simp) fun j hj => by
    have hj' : j = i ∨ j = k := by simpa using hj
    rcases hj' with rfl | rfl
    · exact wpOp_list hi h
    · exact wpOp_list hk h'
theorem wpAnyH_three {P : Program} {md : Region.Mode} {ops : Array Oper} {Q : Exit → Act → World → Prop} {S : World → Prop} {fuel : Nat} {listed : Array Bool} {a : Act} {w : World} (i k l : Nat) (o u v : Oper) (hr : Region.ready md ops listed = [i, k, l]) (hi : ops[i]? = some o) (hk : ops[k]? = some u) (hl : ops[l]? = some v)
    (h : wpList P ops (Exit.then (fun a' w' => S w' ∧ wpAnyH P md ops Q S fuel (listed.setIfInBounds i true) a' w') Q) [o] a w)
    (h' : wpList P ops (Exit.then (fun a' w' => S w' ∧ wpAnyH P md ops Q S fuel (listed.setIfInBounds k true) a' w') Q) [u] a w)
    (h'' : wpList P ops (Exit.then (fun a' w' => S w' ∧ wpAnyH P md ops Q S fuel (listed.setIfInBounds l true) a' w') Q) [v] a w) : wpAnyH P md ops Q S (fuel + 1) listed a w :=
  wpAnyH_all hr (by simp) fun j hj => by
    have hj' : j = i ∨ j = k ∨ j = l := by simpa using hj
    rcases hj' with rfl | rfl | rfl
    · exact wpOp_list hi h
    · exact wpOp_list hk h'
    · exact wpOp_list hl h''
/-- A load of a part of a row, of a row, of a cell yields wherever they lie. -/
theorem yields_mid {P : Program} {ops : Array Oper} {S : World → Prop} {o : Oper} {a : Act} (hw : Region.wanted o (yielded ops a.tmps) = true) (ty : TypeId) (x : Operand) (ho : o.op = .load ty x)
    (b off : Nat) (hx : a.eval x = .pointer (some ⟨b, off, none⟩)) (cs : List Value) (d : TypeDesc) (hc : ∀ w, S w → w.rangeAt b off cs)
    (hu : P.underlying ty = some d) (hd : d.isRow = true) (hi : (P.info? ty).map (·.size) = some cs.length) : YieldsIf P ops S o (.agg cs.toArray) a := by
  refine .inl ⟨hw, fun w hS => ?_⟩
  have hl := run_loadVar_mid w b off ty cs d (hc w hS) hu hd hi
  unfold execOp
  simp only [ho, hx, Instr.loadAt, Instr.sureAddr, Sem.run_bind, Sem.run_pure, Result.andThen_ok, hl]
theorem yields_row {P : Program} {ops : Array Oper} {S : World → Prop} {o : Oper} {a : Act} (hw : Region.wanted o (yielded ops a.tmps) = true) (ty : TypeId) (x : Operand) (ho : o.op = .load ty x)
    (g : Nat) (hx : a.eval x = .pointer (some ⟨g, 0, none⟩)) (t : TypeId) (cs : Array Value) (fr : Nat × Nat) (d : TypeDesc) (hg : ∀ w, S w → w.heap[g]? = some (.cells cs t fr))
    (hu : P.underlying ty = some d) (hd : (match d with | .struct _ | .array _ _ => true | _ => false) = true) (hi : (P.info? ty).map (·.size) = some cs.size) : YieldsIf P ops S o (.agg cs) a := by
  refine .inl ⟨hw, fun w hS => ?_⟩
  have hl := run_loadVar_row w g t ty cs fr d (hg w hS) hu hd hi
  unfold execOp
  simp only [ho, hx, Instr.loadAt, Instr.sureAddr, Sem.run_bind, Sem.run_pure, Result.andThen_ok, hl]
theorem yields_build {P : Program} {ops : Array Oper} {S : World → Prop} {o : Oper} {a : Act} (hw : Region.wanted o (yielded ops a.tmps) = true) (t : TypeId) (parts : Array (Nat × Operand)) (ho : o.op = .build t parts) (cells : Array Value)
    (hb : P.built t (parts.toList.map fun (i, x) => (i, a.eval x)) = some cells) : YieldsIf P ops S o (.agg cells) a := by
  rw [← Array.toList_map] at hb
  refine .inl ⟨hw, fun w hS => ?_⟩
  unfold execOp
  simp only [ho, Sem.run_bind, run_build w t _ cells hb, Result.andThen_ok]
  rfl
end Go.Proofs.YtjfnaedcdmmigaaDoor

namespace Go.Proofs.YtjfnaedcdmmigaaDoor
open Go Go.RowKit
set_option linter.unusedSimpArgs false
set_option linter.unusedVariables false

theorem infoT : (Tryd.prog.info? 38).map (fun i => (i.size, i.bytes, i.zero.map (·.cells.size))) = some (7, 64, some 7) := by kernel_rfl
theorem sizeT (x : Tkn) : (Tryd.prog.info? 38).map (·.size) = some (tokC x).length := by rw [tokC_len]; kernel_rfl
set_option maxHeartbeats 1000000 in
set_option maxRecDepth 100000 in
theorem cloneT_calls (xs : List Tkn) (hn : xs.length ≤ 1000) (p : Option Addr) (c : Nat) (w : World) (hB : EL tokC w p xs) :
    Calls Tryd.prog 72 #[.slice p xs.length c] w fun e w' => (∃ v, e = .returned v ∧ w'.ownsRow w.heap.size 38 7 v xs.length (xs.flatMap tokC)) ∧ Below w.heap.size w w' := by
  have q22 : ∀ (w : World) (a : Option Addr) (n c n' c' : Nat), (binOp .eql 24 (.slice a n c) (.slice none n' c')).run Tryd.prog w = .ok (.bool a.isNone) w := fun w a n c n' c' => Lib.run_eql_slice_nil w _ _ a n c n' c' Tryd.underlying24
  have hl := flatE_len tokC_len xs
  cases p with
  | none =>
    have h0 : xs = [] := by
      cases hBe : xs with
      | nil => rfl
      | cons x l =>
        obtain ⟨b, off, e, _⟩ := hB (by rw [hBe]; simp [tokC])
        cases e
    subst h0
    clear hB hn hl
    go_enter Tryd.func72, Tryd.ntmps72
    go_wp2
    go_ret
    exact ⟨⟨_, rfl, World.ownsRow_nil _ _ _ _⟩, Below.refl _ _⟩
  | some ad =>
    have HB := hide (show VL w (some ad) (xs.flatMap tokC) from hB)
    have HF := hide (fun (v : Value) (W : World) (h : W.ownsRow w.heap.size 38 7 v (0 + xs.length) ([] ++ xs.flatMap tokC)) => (by simpa using h : W.ownsRow w.heap.size 38 7 v xs.length (xs.flatMap tokC)))
    have HO := hide (flat_one tokC_one xs)
    obtain ⟨n, hnn⟩ : ∃ n, xs.length = n := ⟨_, rfl⟩
    rw [hnn] at hn hl
    rw [hnn] at HF
    rw [hnn]
    have HN := hide hl
    generalize xs.flatMap tokC = L at *
    have bA : Below w.heap.size w (w.alloc (.cells #[] 38)) := (Below.refl _ _).alloc (Nat.le_refl _) _
    have BA := hide bA
    clear hB hnn bA hl
    go_enter Tryd.func72, Tryd.ntmps72
    go_wp2_with (at_builtin; (refine wpList_append_e _ rfl 24 38 (.tmp 5) (.tmp 6) rfl Tryd.underlying24 (by decide) infoT (by decide) w.heap.size _ 0 [] rfl (World.ownsRow_made w #[] 0 (Nat.le_refl _) (Nat.zero_le _) (by simp)) (by simp) L n (unhide HN) (unhide HO) ad c ((unhide HB).below (unhide BA) (Nat.le_refl _)) rfl (by omega) ?_); intro v' w1 hown _ hb1)
    go_ret
    exact ⟨⟨_, rfl, unhide HF _ _ hown⟩, (unhide BA).trans hb1⟩
set_option maxHeartbeats 1000000 in
set_option maxRecDepth 100000 in
theorem indexT_calls (g : Nat) (eg : ∀ args w, (callFunc g args).run Tryd.prog w = .ok (.enter g args) w) (lb : Array Value) (f : Tkn → Bool) (xs : List Tkn) (hn : xs.length ≤ 1000) (p : Option Addr) (c : Nat) (w : World) (hB : EL tokC w p xs)
    (hp : ∀ x ∈ xs, ∀ W, Below w.heap.size w W → Calls Tryd.prog g (#[.agg (tokC x).toArray] ++ lb) W fun e w' => e = .returned (.bool (f x)) ∧ Below W.heap.size W w') :
    Calls Tryd.prog 51 #[.slice p xs.length c, .func (.func g) #[] lb] w fun e w' => e = .returned (.int .i64 (pIx f xs)) ∧ Below w.heap.size w w' := by
  have HB := hide hB
  have HP := hide hp
  obtain ⟨n, hnn⟩ : ∃ n, xs.length = n := ⟨_, rfl⟩
  rw [hnn] at hn
  rw [hnn]
  have HN := hide hnn
  clear hB hnn hp
  go_enter Tryd.func51, Tryd.ntmps51
  go_wp2
  go_loopw [5, 8] (fun i5 i wr => ∃ j : Nat, j ≤ n ∧ i = .int .i64 (j : Int) ∧ Below w.heap.size w wr ∧ Hid (∀ i, i < j → ∀ y, xs[i]? = some y → f y = false)) (fun _ i _ => n - (intOf i).toNat)
  case atStart => exact ⟨0, by omega, rfl, Below.refl _ _, hide fun i hi => absurd hi (Nat.not_lt_zero _)⟩
  case round =>
    obtain ⟨j, hj, rfl, hb, hno⟩ := hrel
    by_cases hlt : j < n
    · have hd : decide (j < n) = true := by simpa using hlt
      have bk : (j : Int) < (n : Int) := by omega
      obtain ⟨y, hy⟩ : ∃ y, xs[j]? = some y := ⟨_, List.getElem?_eq_getElem (by rw [unhide HN]; exact hlt)⟩
      obtain ⟨b, off, rfl, hzb, hr0⟩ := EL.row tokC_len (by decide) ((unhide HB).below hb) hy
      have hit := hide (unhide HP y (List.mem_of_getElem? hy) wr hb)
      have HY := hide hy
      have hi0 := sizeT y
      obtain ⟨ans, hans⟩ : ∃ ans, f y = ans := ⟨_, rfl⟩
      rw [hans] at hit
      have Hans := hide hans
      clear hy hans hzb
      generalize tokC y = Y at *
      cases ans with
      | true =>
        go_wp2_with (first
          | (refine wpList_load_mid rfl 38 (.tmp 14) rfl b (off + j * 7) rfl Y _ hr0 Tryd.underlying38 rfl hi0 ?_)
          | (go_at_fn g; refine (unhide hit).mono ?_; rintro e w3 ⟨rfl, hb3⟩))
        go_ret
        refine ⟨?_, hb.trans (hb3.mono hb.size)⟩
        rw [(pIx_hit f xs j y (unhide HY) (unhide Hans) (unhide hno)).1]
        rfl
      | false =>
        go_wp2_with (first
          | (refine wpList_load_mid rfl 38 (.tmp 14) rfl b (off + j * 7) rfl Y _ hr0 Tryd.underlying38 rfl hi0 ?_)
          | (go_at_fn g; refine (unhide hit).mono ?_; rintro e w3 ⟨rfl, hb3⟩))
        go_roundw
        case rel => exact ⟨j + 1, by omega, by go_num, hb.trans (hb3.mono hb.size), hide fun i hi z hz => by
          rcases Nat.lt_succ_iff_lt_or_eq.1 hi with h' | rfl
          · exact unhide hno i h' z hz
          · rw [unhide HY] at hz; cases hz; exact unhide Hans⟩
        case measure => simp [intOf]; omega
    · have hd : decide (j < n) = false := by simpa using hlt
      go_wp2
      go_ret
      refine ⟨?_, hb⟩
      rw [pIx_miss f xs (fun i hi y hy => unhide hno i (by have := unhide HN; omega) y hy)]
      rfl
end Go.Proofs.YtjfnaedcdmmigaaDoor

namespace Go.Proofs.YtjfnaedcdmmigaaDoor
open Go Go.RowKit
set_option linter.unusedSimpArgs false
set_option linter.unusedVariables false

theorem infoH : (Tryd.prog.info? 75).map (fun i => (i.size, i.bytes, i.zero.map (·.cells.size))) = some (4, 48, some 4) := by kernel_rfl
theorem sizeH (x : Hol) : (Tryd.prog.info? 75).map (·.size) = some (holC x).length := by rw [holC_len]; kernel_rfl
set_option maxHeartbeats 1000000 in
set_option maxRecDepth 100000 in
theorem cloneH_calls (xs : List Hol) (hn : xs.length ≤ 1000) (p : Option Addr) (c : Nat) (w : World) (hB : EL holC w p xs) :
    Calls Tryd.prog 73 #[.slice p xs.length c] w fun e w' => (∃ v, e = .returned v ∧ w'.ownsRow w.heap.size 75 4 v xs.length (xs.flatMap holC)) ∧ Below w.heap.size w w' := by
  have q22 : ∀ (w : World) (a : Option Addr) (n c n' c' : Nat), (binOp .eql 25 (.slice a n c) (.slice none n' c')).run Tryd.prog w = .ok (.bool a.isNone) w := fun w a n c n' c' => Lib.run_eql_slice_nil w _ _ a n c n' c' Tryd.underlying25
  have hl := flatE_len holC_len xs
  cases p with
  | none =>
    have h0 : xs = [] := by
      cases hBe : xs with
      | nil => rfl
      | cons x l =>
        obtain ⟨b, off, e, _⟩ := hB (by rw [hBe]; simp [holC])
        cases e
    subst h0
    clear hB hn hl
    go_enter Tryd.func73, Tryd.ntmps73
    go_wp2
    go_ret
    exact ⟨⟨_, rfl, World.ownsRow_nil _ _ _ _⟩, Below.refl _ _⟩
  | some ad =>
    have HB := hide (show VL w (some ad) (xs.flatMap holC) from hB)
    have HF := hide (fun (v : Value) (W : World) (h : W.ownsRow w.heap.size 75 4 v (0 + xs.length) ([] ++ xs.flatMap holC)) => (by simpa using h : W.ownsRow w.heap.size 75 4 v xs.length (xs.flatMap holC)))
    have HO := hide (flat_one holC_one xs)
    obtain ⟨n, hnn⟩ : ∃ n, xs.length = n := ⟨_, rfl⟩
    rw [hnn] at hn hl
    rw [hnn] at HF
    rw [hnn]
    have HN := hide hl
    generalize xs.flatMap holC = L at *
    have bA : Below w.heap.size w (w.alloc (.cells #[] 75)) := (Below.refl _ _).alloc (Nat.le_refl _) _
    have BA := hide bA
    clear hB hnn bA hl
    go_enter Tryd.func73, Tryd.ntmps73
    go_wp2_with (at_builtin; (refine wpList_append_e _ rfl 25 75 (.tmp 5) (.tmp 6) rfl Tryd.underlying25 (by decide) infoH (by decide) w.heap.size _ 0 [] rfl (World.ownsRow_made w #[] 0 (Nat.le_refl _) (Nat.zero_le _) (by simp)) (by simp) L n (unhide HN) (unhide HO) ad c ((unhide HB).below (unhide BA) (Nat.le_refl _)) rfl (by omega) ?_); intro v' w1 hown _ hb1)
    go_ret
    exact ⟨⟨_, rfl, unhide HF _ _ hown⟩, (unhide BA).trans hb1⟩
set_option maxHeartbeats 1000000 in
set_option maxRecDepth 100000 in
theorem indexH_calls (g : Nat) (eg : ∀ args w, (callFunc g args).run Tryd.prog w = .ok (.enter g args) w) (lb : Array Value) (f : Hol → Bool) (xs : List Hol) (hn : xs.length ≤ 1000) (p : Option Addr) (c : Nat) (w : World) (hB : EL holC w p xs)
    (hp : ∀ x ∈ xs, ∀ W, Below w.heap.size w W → Calls Tryd.prog g (#[.agg (holC x).toArray] ++ lb) W fun e w' => e = .returned (.bool (f x)) ∧ Below W.heap.size W w') :
    Calls Tryd.prog 82 #[.slice p xs.length c, .func (.func g) #[] lb] w fun e w' => e = .returned (.int .i64 (pIx f xs)) ∧ Below w.heap.size w w' := by
  have HB := hide hB
  have HP := hide hp
  obtain ⟨n, hnn⟩ : ∃ n, xs.length = n := ⟨_, rfl⟩
  rw [hnn] at hn
  rw [hnn]
  have HN := hide hnn
  clear hB hnn hp
  go_enter Tryd.func82, Tryd.ntmps82
  go_wp2
  go_loopw [5, 8] (fun i5 i wr => ∃ j : Nat, j ≤ n ∧ i = .int .i64 (j : Int) ∧ Below w.heap.size w wr ∧ Hid (∀ i, i < j → ∀ y, xs[i]? = some y → f y = false)) (fun _ i _ => n - (intOf i).toNat)
  case atStart => exact ⟨0, by omega, rfl, Below.refl _ _, hide fun i hi => absurd hi (Nat.not_lt_zero _)⟩
  case round =>
    obtain ⟨j, hj, rfl, hb, hno⟩ := hrel
    by_cases hlt : j < n
    · have hd : decide (j < n) = true := by simpa using hlt
      have bk : (j : Int) < (n : Int) := by omega
      obtain ⟨y, hy⟩ : ∃ y, xs[j]? = some y := ⟨_, List.getElem?_eq_getElem (by rw [unhide HN]; exact hlt)⟩
      obtain ⟨b, off, rfl, hzb, hr0⟩ := EL.row holC_len (by decide) ((unhide HB).below hb) hy
      have hit := hide (unhide HP y (List.mem_of_getElem? hy) wr hb)
      have HY := hide hy
      have hi0 := sizeH y
      obtain ⟨ans, hans⟩ : ∃ ans, f y = ans := ⟨_, rfl⟩
      rw [hans] at hit
      have Hans := hide hans
      clear hy hans hzb
      generalize holC y = Y at *
      cases ans with
      | true =>
        go_wp2_with (first
          | (refine wpList_load_mid rfl 75 (.tmp 14) rfl b (off + j * 4) rfl Y _ hr0 Tryd.underlying75 rfl hi0 ?_)
          | (go_at_fn g; refine (unhide hit).mono ?_; rintro e w3 ⟨rfl, hb3⟩))
        go_ret
        refine ⟨?_, hb.trans (hb3.mono hb.size)⟩
        rw [(pIx_hit f xs j y (unhide HY) (unhide Hans) (unhide hno)).1]
        rfl
      | false =>
        go_wp2_with (first
          | (refine wpList_load_mid rfl 75 (.tmp 14) rfl b (off + j * 4) rfl Y _ hr0 Tryd.underlying75 rfl hi0 ?_)
          | (go_at_fn g; refine (unhide hit).mono ?_; rintro e w3 ⟨rfl, hb3⟩))
        go_roundw
        case rel => exact ⟨j + 1, by omega, by go_num, hb.trans (hb3.mono hb.size), hide fun i hi z hz => by
          rcases Nat.lt_succ_iff_lt_or_eq.1 hi with h' | rfl
          · exact unhide hno i h' z hz
          · rw [unhide HY] at hz; cases hz; exact unhide Hans⟩
        case measure => simp [intOf]; omega
    · have hd : decide (j < n) = false := by simpa using hlt
      go_wp2
      go_ret
      refine ⟨?_, hb⟩
      rw [pIx_miss f xs (fun i hi y hy => unhide hno i (by have := unhide HN; omega) y hy)]
      rfl
end Go.Proofs.YtjfnaedcdmmigaaDoor

namespace Go.Proofs.YtjfnaedcdmmigaaDoor
open Go Go.RowKit
section
variable {P : Program} {ops : Array Oper} {md : Region.Mode} {C : World → Prop}

/-- Whatever order is picked, for so many steps: each step is one of the first n, and quiet; then L. -/
def headQ (P : Program) (md : Region.Mode) (ops : Array Oper) (C : World → Prop) (n : Nat) (L : Array Bool → Act → Prop) : Nat → Array Bool → Act → Prop
  | 0, listed, a => L listed a
  | f + 1, listed, a => Region.ready md ops listed ≠ [] ∧ ∀ i ∈ Region.ready md ops listed, i < n ∧ qOp P ops C i (headQ P md ops C n L f (listed.setIfInBounds i true)) a

theorem any_of_headQ {n g : Nat} {L : Array Bool → Act → Prop} {Q : Exit → Act → World → Prop} (hL : ∀ listed a w, C w → L listed a → wpAny P md ops Q g listed a w) (f : Nat) :
    ∀ (listed : Array Bool) (a : Act) (w : World), C w → headQ P md ops C n L f listed a → wpAny P md ops Q (f + g) listed a w := by
  induction f with
  | zero => intro listed a w hw h; rw [Nat.zero_add]; exact hL _ _ _ hw h
  | succ f ih =>
    intro listed a w hw h
    rw [show f + 1 + g = (f + g) + 1 by omega]
    exact ⟨fun h0 => absurd h0 h.1, fun i hi => wpOp_of_qOp hw (fun a' w' hw' h' => ih _ a' w' hw' h') (h.2 i hi).2⟩

/-- One that may come up, yields its value in every world of the class, and is apart from all that does not wait for it, may be taken first. -/
theorem headQ_first {n i : Nat} {oi : Oper} {v : Value} {L : Array Bool → Act → Prop} (hi : ops[i]? = some oi) (hsel : ∀ (j : Nat) (o : Oper) cs b, ops[j]? = some o → o.op ≠ .select cs b)
    (hs : Region.sinkB md ops n = true) (hc : Region.chainB md ops n = true) (hn : n < ops.size) (hin : i < n)
    (hend : ∀ listed a, L listed a → ∀ j ∈ Region.ready md ops listed, n ≤ j) (f : Nat) :
    ∀ (listed : Array Bool) (a : Act), HeadInv md ops n listed →
      (∀ j oj, ops[j]? = some oj → j ≠ i → listed.getD j true = false → (∀ e ∈ oj.after, Region.binds md e = true → e.on ≠ i) → oi.apart ops oj = true) →
      i ∈ Region.ready md ops listed → YieldsIn P ops C oi v a →
      headQ P md ops C n L f (listed.setIfInBounds i true) (a.put oi.dst v) → headQ P md ops C n L (f + 1) listed a := by
  induction f with
  | zero =>
    intro listed a inv _ hr hy H
    refine ⟨fun h => (by rw [h] at hr; cases hr), fun j hj => ?_⟩
    have hjn : j < n := Nat.lt_of_not_le fun h => tail_waits hs hc hn inv _ i rfl hin (mem_ready.1 hr).1 j h hj
    refine ⟨hjn, ?_⟩
    by_cases e : j = i
    · subst e; exact hy.qOp hi H
    · exact absurd (hend _ _ H j (ready_mono hj e)) (by omega)
  | succ f ih =>
    intro listed a inv apart hr hy H
    refine ⟨fun h => (by rw [h] at hr; cases hr), fun j hj => ?_⟩
    have hjn : j < n := Nat.lt_of_not_le fun h => tail_waits hs hc hn inv _ i rfl hin (mem_ready.1 hr).1 j h hj
    refine ⟨hjn, ?_⟩
    by_cases e : j = i
    · subst e; exact hy.qOp hi H
    · obtain ⟨hun, oj, hoj, hall⟩ := mem_ready.1 hj
      have free : ∀ e ∈ oj.after, Region.binds md e = true → e.on ≠ i := fun e he hb heq => by
        have h1 := hall e he hb
        rw [heq, getD_both (mem_ready.1 hr).1] at h1
        cases h1
      have step := qOp_put hoj (apart j oj hoj e hun free) (fun cs b => hsel i oi cs b hi) (fun cs b => hsel j oj cs b hoj) hy (H.2 j (ready_mono hj e)).2
      refine qOp_mono (fun a' h3 => ih (listed.setIfInBounds j true) a' (inv.set hj hjn) (fun k ok hk hki hk2 hno => apart k ok hk hki ?_ hno) (ready_mono hr (Ne.symm e)) h3.1 ?_) step
      · by_cases hjk : j = k
        · subst hjk; exact hun
        · rw [getD_set_ne true hjk] at hk2; exact hk2
      · rw [Array.setIfInBounds_comm _ _ e]; exact h3.2

/-- The text's order serves every order. -/
theorem headQ_lex {n g : Nat} {R : Act → Prop} (hsel : Region.noSelect ops = true) (hs : Region.sinkB md ops n = true) (hc : Region.chainB md ops n = true) (hn : n < ops.size) :
    ∀ (l : List Oper) (k : Nat) (listed : Array Bool) (a : Act), (∀ j, j < l.length → l[j]? = ops[k + j]?) → k + l.length = n → HeadInv md ops n listed →
    Region.lexHead md ops g l.length k listed = true → wpQuiet P ops C R l a →
    headQ P md ops C n (fun listed' a' => Region.seqB md ops g n listed' = true ∧ R a') l.length listed a
  | [], k, listed, a, _, hk, _, hB, h => by
    obtain rfl : k = n := by simpa using hk
    exact ⟨by simpa [Region.lexHead] using hB, h⟩
  | o :: l, k, listed, a, hl, hk, inv, hB, h => by
    have h0 : ops[k]? = some o := by simpa using (hl 0 (by simp)).symm
    simp only [List.length_cons, Region.lexHead, Bool.and_eq_true] at hB
    obtain ⟨⟨hr, hf⟩, hB'⟩ := hB
    have hkn : k < n := by simp only [List.length_cons] at hk; omega
    have hr' : k ∈ Region.ready md ops listed := by simpa using hr
    obtain ⟨v, hy, hK⟩ := yieldsIn_of_qOp (C := C) (K := wpQuiet P ops C R l) h0 (by unfold qOp; simp only [h0]; exact h)
    refine headQ_first h0 (Region.noSelect_spec hsel) hs hc hn hkn (fun _ _ hL => seqB_ready hL.1) l.length listed a inv (Region.free_spec h0 hf) hr' hy ?_
    exact headQ_lex hsel hs hc hn l (k + 1) _ _ (fun j hj => by have := hl (j + 1) (by simp; omega); simpa [Nat.add_assoc, Nat.add_comm 1 j] using this) (by simp only [List.length_cons] at hk; omega) (inv.set hr' hkn) hB' hK

/-- A REGION THAT DRAWS: the first n operations quiet in a class of worlds, walked in the text's order; what is left in its forced order, from whatever world of the class. -/
theorem wp_region_quiet_tail {id : Nat} {Q : Exit → Act → World → Prop} {a : Act} {w : World} {l : List Oper} (n : Nat) (hm : P.follows .mixedOrders = true) (hB : Region.lexTailB .any l.toArray n = true)
    (hC : C { w with drawn := w.drawn + 1 }) (h : wpQuiet P l.toArray C (fun a' => ∀ w', C w' → wpList P l.toArray Q (l.drop n) a' w') (l.take n) a) : (Code.region id l.toArray true).wp P Q a w := by
  simp only [Region.lexTailB, Bool.and_eq_true, decide_eq_true_eq] at hB
  obtain ⟨⟨⟨⟨hsel, hn⟩, hs⟩, hc⟩, hlex⟩ := hB
  have hn' : n < l.length := by simpa using hn
  have htl : (l.take n).length = n := by simp; omega
  have hdl : (l.drop n).length = l.toArray.size - n := by simp
  have inv : HeadInv .any l.toArray n (Array.replicate l.toArray.size false) :=
    ⟨by simp, fun j oj _ hl => (by rw [getD_replicate_false] at hl; cases hl), fun t _ ht => getD_in (by simpa using ht) (getD_replicate_false _ _)⟩
  have H := headQ_lex (C := C) (md := .any) (g := l.toArray.size - n) hsel hs hc hn (l.take n) 0 _ a (fun j hj => by
    have hj' : j < n := by rw [htl] at hj; exact hj
    simp [hj']) (by simpa using htl) inv (by rw [htl]; exact hlex) h
  refine wp_region_any hm ?_
  have fin := any_of_headQ (Q := Q) (g := l.toArray.size - n) (fun listed a' w' hw' hL => by
    have := wpAny_of_seq (md := .any) (Q' := Q) (l.drop n) n listed a' w' (fun j => by simp [List.getElem?_drop]) (by rw [hdl]; exact hL.1) (hL.2 w' hw')
    rwa [hdl] at this) _ _ _ _ hC H
  rw [htl, show n + (l.toArray.size - n) = l.toArray.size by omega] at fin
  exact fin
end

/-- The class of the worlds in which all that lay there lies as it lay. -/
theorem wp_region_below_tail {P : Program} {id : Nat} {Q : Exit → Act → World → Prop} {a : Act} {w : World} {l : List Oper} (n : Nat) (hm : P.follows .mixedOrders = true) (hB : Region.lexTailB .any l.toArray n = true)
    (h : wpQuiet P l.toArray (fun w' => ∃ p : Regrown, w' = Sort.grow (redrawn w p.d) p.os) (fun a' => ∀ w', Below w.heap.size w w' → wpList P l.toArray Q (l.drop n) a' w') (l.take n) a) : (Code.region id l.toArray true).wp P Q a w := by
  refine wp_region_quiet_tail n hm hB (C := fun w' => ∃ p : Regrown, w' = Sort.grow (redrawn w p.d) p.os) ⟨⟨w.drawn + 1, #[]⟩, by rw [Sort.grow_empty]; rfl⟩ ?_
  have e : (fun a' => ∀ w', Below w.heap.size w w' → wpList P l.toArray Q (l.drop n) a' w') = fun a' => ∀ w', (∃ p : Regrown, w' = Sort.grow (redrawn w p.d) p.os) → wpList P l.toArray Q (l.drop n) a' w' := by
    funext a'; apply propext
    exact ⟨fun H w' ⟨p, hp⟩ => H w' (by rw [hp]; exact below_regrown w p.d p.os), fun H w' hb => H w' (regrown_of_below hb)⟩
  rw [← e]; exact h
/-- The same without a tail. -/
theorem wp_region_below {P : Program} {id : Nat} {Q : Exit → Act → World → Prop} {a : Act} {w : World} {l : List Oper} (hm : P.follows .mixedOrders = true) (hB : Region.lexB .any l.toArray = true)
    (h : wpQuiet P l.toArray (fun w' => ∃ p : Regrown, w' = Sort.grow (redrawn w p.d) p.os) (fun a' => ∀ w', Below w.heap.size w w' → Q .normal a' w') l a) : (Code.region id l.toArray true).wp P Q a w := by
  refine wp_region_quiet_below hm hB ?_
  have e : (fun a' => ∀ w', Below w.heap.size w w' → Q .normal a' w') = fun a' => ∀ w', (∃ p : Regrown, w' = Sort.grow (redrawn w p.d) p.os) → Q .normal a' w' := by
    funext a'; apply propext
    exact ⟨fun H w' ⟨p, hp⟩ => H w' (by rw [hp]; exact below_regrown w p.d p.os), fun H w' hb => H w' (regrown_of_below hb)⟩
  rw [← e]; exact h

end Go.Proofs.YtjfnaedcdmmigaaDoor

namespace Go.Proofs.YtjfnaedcdmmigaaDoor
open Go Go.RowKit

theorem wpQuiet_load_row {P : Program} {ops : Array Oper} {C : World → Prop} {Q : Act → Prop} {a : Act} {o : Oper} {rest : List Oper} (hw : Region.wanted o (yielded ops a.tmps) = true) (ty : TypeId) (x : Operand) (ho : o.op = .load ty x)
    (g : Nat) (hx : a.eval x = .pointer (some ⟨g, 0, none⟩)) (t : TypeId) (cs : Array Value) (fr : Nat × Nat) (d : TypeDesc) (hg : ∀ w, C w → w.heap[g]? = some (.cells cs t fr))
    (hu : P.underlying ty = some d) (hd : (match d with | .struct _ | .array _ _ => true | _ => false) = true) (hi : (P.info? ty).map (·.size) = some cs.size)
    (h : wpQuiet P ops C Q rest (a.put o.dst (.agg cs))) : wpQuiet P ops C Q (o :: rest) a := by
  show if _ then _ else _
  rw [if_pos hw]
  refine ⟨.agg cs, fun w hC => ?_, h⟩
  have hl := run_loadVar_row w g t ty cs fr d (hg w hC) hu hd hi
  unfold Oper.quietAt execOp
  simp only [ho, hx, Instr.loadAt, Instr.sureAddr, Sem.run_bind, Sem.run_pure, Result.andThen_ok, hl]
  exact ⟨rfl, rfl⟩
end Go.Proofs.YtjfnaedcdmmigaaDoor

namespace Go.Proofs.YtjfnaedcdmmigaaDoor
open Go Go.RowKit
set_option linter.unusedSimpArgs false
set_option linter.unusedVariables false

def tkv (o : Nat) (n : List UInt8) : Array Value := #[.int .u32 (o : Int), .string (str n)]
def hkv (o : Nat) (n a : List UInt8) : Array Value := #[.int .u32 (o : Int), .string (str n), .string (str a)]
def isT (o : Nat) (n : List UInt8) (t : Tkn) : Bool := decide (t.o = o ∧ t.n = n)
def isH (o : Nat) (n a : List UInt8) (h : Hol) : Bool := decide (h.o = o ∧ h.n = n ∧ h.w = a)
set_option maxRecDepth 100000 in
theorem tkey_eql (o : Nat) (n : List UInt8) (o' : Nat) (n' : List UInt8) (w : World) : (binOp .eql 79 (.agg (tkv o n)) (.agg (tkv o' n'))).run Tryd.prog w = .ok (.bool (decide (o = o' ∧ n = n'))) w := by
  unfold tkv
  have s := toList_eqQ
  by_cases h1 : o = o'
  · subst h1
    go_simp
    by_cases h2 : n = n' <;> simp [h2]
  · have e1 : ((o : Int) == (o' : Int)) = false := by simp; omega
    go_simp
set_option maxRecDepth 100000 in
theorem hkey_eql (o : Nat) (n a : List UInt8) (o' : Nat) (n' a' : List UInt8) (w : World) : (binOp .eql 81 (.agg (hkv o n a)) (.agg (hkv o' n' a'))).run Tryd.prog w = .ok (.bool (decide (o = o' ∧ n = n' ∧ a = a'))) w := by
  unfold hkv
  have s := toList_eqQ
  by_cases h1 : o = o'
  · subst h1
    go_simp
    by_cases h2 : n = n' <;> by_cases h3 : a = a' <;> simp [h2, h3]
  · have e1 : ((o : Int) == (o' : Int)) = false := by simp; omega
    go_simp
theorem tkInfo (o : Nat) (n : List UInt8) : (Tryd.prog.info? 79).map (·.size) = some (tkv o n).size := by unfold tkv; kernel_rfl
theorem hkInfo (o : Nat) (n a : List UInt8) : (Tryd.prog.info? 81).map (·.size) = some (hkv o n a).size := by unfold hkv; kernel_rfl
set_option maxRecDepth 100000 in
theorem keyOf_calls (t : Tkn) (w : World) : Calls Tryd.prog 45 #[.agg (tokC t).toArray] w fun e w' => e = .returned (.agg (tkv t.o t.n)) ∧ Below w.heap.size w w' := by
  have q1 := (al2 w (.cells (tokC t).toArray 38) (.cells (tkv t.o t.n) 79)).2
  have b0 := bel2 w (.cells (tokC t).toArray 38) (.cells (tkv t.o t.n) 79)
  have hi := tkInfo t.o t.n
  unfold tkv tokC at *
  go_enter Tryd.func45, Tryd.ntmps45
  go_wp2
  exact bodyPost_ret (results_cell_row rfl _ _ (w.heap.size + 1) _ _ _ _ rfl q1 Tryd.underlying79 rfl hi) rfl ⟨rfl, b0⟩
set_option maxRecDepth 100000 in
theorem heldKey_calls (h : Hol) (w : World) : Calls Tryd.prog 38 #[.agg (holC h).toArray] w fun e w' => e = .returned (.agg (hkv h.o h.n h.w)) ∧ Below w.heap.size w w' := by
  have q1 := (al2 w (.cells (holC h).toArray 75) (.cells (hkv h.o h.n h.w) 81)).2
  have b0 := bel2 w (.cells (holC h).toArray 75) (.cells (hkv h.o h.n h.w) 81)
  have hi := hkInfo h.o h.n h.w
  unfold hkv holC at *
  go_enter Tryd.func38, Tryd.ntmps38
  go_wp2
  exact bodyPost_ret (results_cell_row rfl _ _ (w.heap.size + 1) _ _ _ _ rfl q1 Tryd.underlying81 rfl hi) rfl ⟨rfl, b0⟩
/-- A token of another key, or of this one. -/
theorem tokHit_calls (x : Tkn) (o : Nat) (n : List UInt8) (K : Nat) (w : World) (hK : w.heap[K]? = some (.cells (tkv o n) 79 (0, 0))) :
    Calls Tryd.prog 71 #[.agg (tokC x).toArray, .pointer (some ⟨K, 0, none⟩)] w fun e w' => e = .returned (.bool (isT o n x)) ∧ Below w.heap.size w w' := by
  have he := hide fun W => tkey_eql x.o x.n o n W
  have hk := hide fun W => keyOf_calls x W
  have hti := sizeT x
  obtain ⟨ans, hans⟩ : ∃ a, decide (x.o = o ∧ x.n = n) = a := ⟨_, rfl⟩
  rw [hans] at he
  unfold isT
  rw [hans]
  have hik := tkInfo o n
  have q0 := al1 w (.cells (tokC x).toArray 38)
  have b0 : Below w.heap.size w (w.alloc (.cells (tokC x).toArray 38)) := (Below.refl _ _).alloc (Nat.le_refl _) _
  have kk := Below.at b0 (Array.getElem?_eq_some_iff.1 hK).1 hK
  have sX : (w.alloc (.cells (tokC x).toArray 38)).heap.size = w.heap.size + 1 := by simp
  have zK := (Array.getElem?_eq_some_iff.1 hK).1
  generalize tkv x.o x.n = A at *
  generalize tkv o n = B at *
  have hsz : (tokC x).toArray.size = (tokC x).length := rfl
  generalize tokC x = C at *
  obtain ⟨X, hX⟩ : ∃ X, w.alloc (.cells C.toArray 38) = X := ⟨_, rfl⟩
  have HX := hide hX
  rw [hX] at q0 b0 kk sX
  have R0 : Hid (∀ w', (∃ p : Regrown, w' = Sort.grow (redrawn X p.d) p.os) → w'.heap[w.heap.size]? = some (.cells C.toArray 38 (0, 0))) := fun w' ⟨p, hp⟩ => by rw [hp]; exact Below.at (below_regrown X p.d p.os) (by omega) q0
  have R1 : Hid (∀ w', (∃ p : Regrown, w' = Sort.grow (redrawn X p.d) p.os) → w'.heap[K]? = some (.cells B 79 (0, 0))) := fun w' ⟨p, hp⟩ => by rw [hp]; exact Below.at (below_regrown X p.d p.os) (by omega) kk
  have kC := hide fun d os => Calls.regrown_of (w := X) (d := d) (os := os) (unhide hk _)
  clear hK hX q0 kk sX zK hans
  go_enter Tryd.func71, Tryd.ntmps71
  go_upto_region 1 with fail
  change Code.wp _ _ _ _ (w.alloc (.cells C.toArray 38))
  rw [unhide HX]
  go_wp2_with fail
  refine wp_region_below mixed (by kernel_rfl) ?_
  refine wpQuiet_load_row rfl 38 (.tmp 2) rfl w.heap.size rfl 38 C.toArray (0, 0) _ (unhide R0) Tryd.underlying38 rfl hti ?_
  quiet_step (exact unhide kC _ _)
  refine wpQuiet_load_row rfl 79 (.tmp 1) rfl K rfl 79 B (0, 0) _ (unhide R1) Tryd.underlying79 rfl hik ?_
  have he' := unhide he
  quiet_step (fail)
  quiet_step (fail)
  refine wpQuiet_nil ?_
  intro w3 b3
  go_wp2
  go_ret
  exact ⟨rfl, b0.trans (b3.mono b0.size)⟩
end Go.Proofs.YtjfnaedcdmmigaaDoor

namespace Go.Proofs.YtjfnaedcdmmigaaDoor
open Go Go.RowKit
set_option linter.unusedSimpArgs false
set_option linter.unusedVariables false

set_option maxRecDepth 100000 in
/-- A holding of another key, or of this one. -/
theorem holHit_calls (x : Hol) (o : Nat) (n a : List UInt8) (K : Nat) (w : World) (hK : w.heap[K]? = some (.cells (hkv o n a) 81 (0, 0))) :
    Calls Tryd.prog 103 #[.agg (holC x).toArray, .pointer (some ⟨K, 0, none⟩)] w fun e w' => e = .returned (.bool (isH o n a x)) ∧ Below w.heap.size w w' := by
  have he := hide fun W => hkey_eql x.o x.n x.w o n a W
  have hk := hide fun W => heldKey_calls x W
  have hti := sizeH x
  obtain ⟨ans, hans⟩ : ∃ bb : Bool, decide (x.o = o ∧ x.n = n ∧ x.w = a) = bb := ⟨_, rfl⟩
  rw [hans] at he
  unfold isH
  rw [hans]
  have hik := hkInfo o n a
  have q0 := al1 w (.cells (holC x).toArray 75)
  have b0 : Below w.heap.size w (w.alloc (.cells (holC x).toArray 75)) := (Below.refl _ _).alloc (Nat.le_refl _) _
  have kk := Below.at b0 (Array.getElem?_eq_some_iff.1 hK).1 hK
  have sX : (w.alloc (.cells (holC x).toArray 75)).heap.size = w.heap.size + 1 := by simp
  have zK := (Array.getElem?_eq_some_iff.1 hK).1
  generalize hkv x.o x.n x.w = A at *
  generalize hkv o n a = B at *
  generalize holC x = C at *
  obtain ⟨X, hX⟩ : ∃ X, w.alloc (.cells C.toArray 75) = X := ⟨_, rfl⟩
  have HX := hide hX
  rw [hX] at q0 b0 kk sX
  have R0 : Hid (∀ w', (∃ p : Regrown, w' = Sort.grow (redrawn X p.d) p.os) → w'.heap[w.heap.size]? = some (.cells C.toArray 75 (0, 0))) := fun w' ⟨p, hp⟩ => by rw [hp]; exact Below.at (below_regrown X p.d p.os) (by omega) q0
  have R1 : Hid (∀ w', (∃ p : Regrown, w' = Sort.grow (redrawn X p.d) p.os) → w'.heap[K]? = some (.cells B 81 (0, 0))) := fun w' ⟨p, hp⟩ => by rw [hp]; exact Below.at (below_regrown X p.d p.os) (by omega) kk
  have kC := hide fun d os => Calls.regrown_of (w := X) (d := d) (os := os) (unhide hk _)
  clear hK hX q0 kk sX zK hans
  go_enter Tryd.func103, Tryd.ntmps103
  go_upto_region 1 with fail
  change Code.wp _ _ _ _ (w.alloc (.cells C.toArray 75))
  rw [unhide HX]
  go_wp2_with fail
  refine wp_region_below mixed (by kernel_rfl) ?_
  refine wpQuiet_load_row rfl 75 (.tmp 2) rfl w.heap.size rfl 75 C.toArray (0, 0) _ (unhide R0) Tryd.underlying75 rfl hti ?_
  quiet_step (exact unhide kC _ _)
  refine wpQuiet_load_row rfl 81 (.tmp 1) rfl K rfl 81 B (0, 0) _ (unhide R1) Tryd.underlying81 rfl hik ?_
  have he' := unhide he
  quiet_step (fail)
  quiet_step (fail)
  refine wpQuiet_nil ?_
  intro w3 b3
  go_wp2
  go_ret
  exact ⟨rfl, b0.trans (b3.mono b0.size)⟩
set_option maxRecDepth 100000 in
/-- Where the first one of a key stands. -/
theorem holPlace_calls (ts : List Tkn) (hs : List Hol) (hn1 : ts.length ≤ 1000) (hn2 : hs.length ≤ 1000) (p1 p2 : Option Addr) (c1 c2 : Nat) (o : Nat) (n a : List UInt8) (w : World) (hT : EL tokC w p1 ts) (hH : EL holC w p2 hs) :
    Calls Tryd.prog 80 #[.agg #[.slice p1 ts.length c1, .slice p2 hs.length c2], .agg (hkv o n a)] w fun e w' => e = .returned (.int .i64 (pIx (isH o n a) hs)) ∧ Below w.heap.size w w' := by
  have hmf : ∀ (fn : Fn) (first cap : Array Value) (w : World), (Instr.makeFunc fn first cap).run Tryd.prog w = .ok (.func fn first cap) w := fun _ _ _ _ => rfl
  have q1 := (al2 w (.cells #[.slice p1 ts.length c1, .slice p2 hs.length c2] 27) (.cells (hkv o n a) 81)).2
  have b0 := bel2 w (.cells #[.slice p1 ts.length c1, .slice p2 hs.length c2] 27) (.cells (hkv o n a) 81)
  have k := hide (indexH_calls 103 (enters_of Tryd.func103 (by kernel_rfl) rfl) #[.pointer (some ⟨w.heap.size + 1, 0, none⟩)] (isH o n a) hs hn2 p2 c2 _ (hH.below b0) (fun x _ W hW => holHit_calls x o n a (w.heap.size + 1) W (Below.at hW (by simp) q1)))
  generalize pIx (isH o n a) hs = R at *
  unfold hkv at *
  clear hT hH q1
  go_enter Tryd.func80, Tryd.ntmps80
  go_wp2_with fail
  refine (unhide k).mono ?_
  rintro e w1 ⟨rfl, b1⟩
  have b2 := b0.trans (b1.mono b0.size)
  clear k b1 b0
  go_wp2
  go_ret
  exact ⟨rfl, b2⟩
set_option maxRecDepth 100000 in
/-- Where the first one of a key stands. -/
theorem tokPlace_calls (ts : List Tkn) (hs : List Hol) (hn1 : ts.length ≤ 1000) (hn2 : hs.length ≤ 1000) (p1 p2 : Option Addr) (c1 c2 : Nat) (o : Nat) (n : List UInt8) (w : World) (hT : EL tokC w p1 ts) (hH : EL holC w p2 hs) :
    Calls Tryd.prog 41 #[.agg #[.slice p1 ts.length c1, .slice p2 hs.length c2], .agg (tkv o n)] w fun e w' => e = .returned (.int .i64 (pIx (isT o n) ts)) ∧ Below w.heap.size w w' := by
  have hmf : ∀ (fn : Fn) (first cap : Array Value) (w : World), (Instr.makeFunc fn first cap).run Tryd.prog w = .ok (.func fn first cap) w := fun _ _ _ _ => rfl
  have q1 := (al2 w (.cells #[.slice p1 ts.length c1, .slice p2 hs.length c2] 27) (.cells (tkv o n) 79)).2
  have b0 := bel2 w (.cells #[.slice p1 ts.length c1, .slice p2 hs.length c2] 27) (.cells (tkv o n) 79)
  have k := hide (indexT_calls 71 (enters_of Tryd.func71 (by kernel_rfl) rfl) #[.pointer (some ⟨w.heap.size + 1, 0, none⟩)] (isT o n) ts hn1 p1 c1 _ (hT.below b0) (fun x _ W hW => tokHit_calls x o n (w.heap.size + 1) W (Below.at hW (by simp) q1)))
  generalize pIx (isT o n) ts = R at *
  unfold tkv at *
  clear hT hH q1
  go_enter Tryd.func41, Tryd.ntmps41
  go_wp2_with fail
  refine (unhide k).mono ?_
  rintro e w1 ⟨rfl, b1⟩
  have b2 := b0.trans (b1.mono b0.size)
  clear k b1 b0
  go_wp2
  go_ret
  exact ⟨rfl, b2⟩
end Go.Proofs.YtjfnaedcdmmigaaDoor

namespace Go.Proofs.YtjfnaedcdmmigaaDoor
open Go.RowKit
set_option linter.unusedSimpArgs false
set_option linter.unusedVariables false

def pSmall (r : Nat) : Bool := (decide (97 ≤ r) && decide (r ≤ 122)) || (decide (945 ≤ r) && decide (r ≤ 969))
def pDigit (r : Nat) : Bool := decide (48 ≤ r) && decide (r ≤ 57)
def pCapital (r : Nat) : Bool := (decide (65 ≤ r) && decide (r ≤ 90)) || ((decide (913 ≤ r) && decide (r ≤ 937)) && (r != 930))

theorem isDigit_calls (r : Nat) (w : World) :
    Calls Tryd.prog 75 #[.int .i32 (r : Int)] w fun e w' => e = .returned (.bool (pDigit r)) ∧ w' = w := by
  by_cases h1 : 48 ≤ r
  · have d1 : decide ((48 : Int) ≤ (r : Int)) = true := by simp; omega
    by_cases h2 : r ≤ 57
    · have d2 : decide ((r : Int) ≤ 57) = true := by simp; omega
      have hp : pDigit r = true := by simp [pDigit]; omega
      rw [hp]; clear hp
      go_enter Tryd.func75, Tryd.ntmps75
      go_wp2
      go_ret
      exact ⟨rfl, rfl⟩
    · have d2 : decide ((r : Int) ≤ 57) = false := by simp; omega
      have hp : pDigit r = false := by simp [pDigit]; omega
      rw [hp]; clear hp
      go_enter Tryd.func75, Tryd.ntmps75
      go_wp2
      go_ret
      exact ⟨rfl, rfl⟩
  · have d1 : decide ((48 : Int) ≤ (r : Int)) = false := by simp; omega
    have hp : pDigit r = false := by simp [pDigit]; omega
    rw [hp]; clear hp
    go_enter Tryd.func75, Tryd.ntmps75
    go_wp2
    go_ret
    exact ⟨rfl, rfl⟩

theorem isSmall_calls (r : Nat) (w : World) :
    Calls Tryd.prog 74 #[.int .i32 (r : Int)] w fun e w' => e = .returned (.bool (pSmall r)) ∧ w' = w := by
  cases d1 : decide ((97 : Int) ≤ (r : Int)) <;> cases d2 : decide ((r : Int) ≤ 122) <;> cases d3 : decide ((945 : Int) ≤ (r : Int)) <;> cases d4 : decide ((r : Int) ≤ 969)
  all_goals
    generalize hp : pSmall r = p
    have Hp := hide hp
    clear hp
    go_enter Tryd.func74, Tryd.ntmps74
    go_wp2
    go_ret
    refine ⟨?_, rfl⟩
    rw [← unhide Hp]
    simp only [decide_eq_true_eq, decide_eq_false_iff_not] at d1 d2 d3 d4
    simp [pSmall]
    omega

end Go.Proofs.YtjfnaedcdmmigaaDoor

namespace Go.Proofs
open Go.Shelf
def Tryd.lays99_ren : Go.Shelf.Ren := ⟨fun | 99 => 126 | 206 => 131 | n => n, fun | 3 => 3 | 4 => 4 | 9 => 9 | n => n, fun | n => n⟩
theorem Tryd.lays99 : Go.Proofs.Lays.n99 Tryd.prog Tryd.lays99_ren := {
  mixed := by kernel_rfl
  f99 := Tryd.func126.trans (congrArg some (by kernel_rfl))
  f206 := Tryd.func131.trans (congrArg some (by kernel_rfl))
  t3 := Tryd.underlying3
  a3 := Tryd.isAgg3
  z3 := Tryd.sizeOf3
  v3 := Tryd.zeroValue3
  t4 := Tryd.underlying4
  a4 := Tryd.isAgg4
  z4 := Tryd.sizeOf4
  v4 := Tryd.zeroValue4
  t9 := Tryd.underlying9
  a9 := Tryd.isAgg9
  z9 := Tryd.sizeOf9
  v9 := Tryd.zeroValue9 }
namespace YtjfnaedcdmmigaaDoor
open Go.RowKit
set_option linter.unusedSimpArgs false
set_option linter.unusedVariables false

theorem hasPrefix_calls (s p : ByteArray) (w : World) : Calls Tryd.prog 126 #[.string s, .string p] w fun e w' => e = .returned (.bool (Lib.hasPrefix s.data.toList p.data.toList)) ∧ w' = w :=
  Any.strings_HasPrefix Tryd.lays99 s p w
/-- Is it a stray, what a range hands out there? -/
def pStray (l : List UInt8) (k r : Nat) : Bool := (r == 65533) && !(Lib.hasPrefix (l.drop k) [239, 191, 189])

set_option maxHeartbeats 400000 in
theorem isStray_calls (l : List UInt8) (k r : Nat) (hk : k ≤ l.length) (hl : l.length ≤ 9223372036854775807) (w : World) :
    Calls Tryd.prog 118 #[.string (str l), .int .i64 (k : Int), .int .i32 (r : Int)] w fun e w' => e = .returned (.bool (pStray l k r)) ∧ w' = w := by
  have ed := drop_str l k _ rfl
  have b0 : (0 : Int) ≤ k ∧ (k : Int) ≤ (l.length : Int) := by omega
  by_cases h : r = 65533
  · have hd : ((r : Int) == 65533) = true := by simp; omega
    have hp : pStray l k r = !(Lib.hasPrefix (l.drop k) [239, 191, 189]) := by simp [pStray, h]
    rw [hp]
    clear hp h
    go_enter Tryd.func118, Tryd.ntmps118
    go_wp2_with (go_at_call 126; refine (hasPrefix_calls _ _ _).mono ?_; rintro e w' ⟨rfl, rfl⟩)
    go_ret
    refine ⟨?_, rfl⟩
    simp
  · have hd : ((r : Int) == 65533) = false := by simp; omega
    have hp : pStray l k r = false := by simp [pStray, h]
    rw [hp]
    clear hp h
    go_enter Tryd.func118, Tryd.ntmps118
    go_wp2
    go_ret
    exact ⟨rfl, rfl⟩

/-- What a range hands out from a place on: places and runes. -/
def itemsFrom (s : ByteArray) : Nat → Nat → List (Nat × Nat)
  | 0, _ => []
  | f + 1, pos => if pos < s.size then (pos, (Utf8.decode s pos).1) :: itemsFrom s f (pos + (Utf8.decode s pos).2) else []
def items (l : List UInt8) : List (Nat × Nat) := itemsFrom (str l) l.length 0
theorem width_pos (s : ByteArray) (pos : Nat) (h : pos < s.size) : 1 ≤ (Utf8.decode s pos).2 := by
  by_cases ha : (s[pos]'h).toNat < 128
  · rw [decode_ascii s pos h ha]; exact Nat.le_refl _
  · exact (decode_high s pos h (by omega)).2
theorem itemsFrom_end (s : ByteArray) (fuel pos : Nat) (h : ¬ pos < s.size) : itemsFrom s fuel pos = [] := by
  cases fuel with
  | zero => rfl
  | succ f => simp [itemsFrom, h]
def pRunes (l : List UInt8) : Nat := ((items l).filter fun x => !pStray l x.1 x.2).length
def pStrays (l : List UInt8) : Nat := ((items l).filter fun x => pStray l x.1 x.2).length

end YtjfnaedcdmmigaaDoor
end Go.Proofs

namespace Go.Proofs.YtjfnaedcdmmigaaDoor
open Go.RowKit
set_option linter.unusedSimpArgs false
set_option linter.unusedVariables false

def hexList : List UInt8 := [48, 49, 50, 51, 52, 53, 54, 55, 56, 57, 97, 98, 99, 100, 101, 102]
def hexd (n : Nat) : UInt8 := hexList.getD n 0
theorem str_index (l : List UInt8) (n : Nat) (h : n < l.length) (w : World) : (Instr.index 9 (.string (str l)) (.int .i64 (n : Int))).run Tryd.prog w = .ok (.int .u8 ((l.getD n 0).toNat : Int)) w := by
  rw [run_index_string w 9 _ .i64 n Tryd.underlying9, dif_pos ⟨by omega, by rw [str_size]; omega⟩]
  simp only [Int.toNat_natCast]
  rw [byte_at (str l) n (by rw [str_size]; exact h), str_toList]
theorem hex_index (n : Nat) (h : n < 16) (w : World) : (Instr.index 9 (.string ⟨#[48, 49, 50, 51, 52, 53, 54, 55, 56, 57, 97, 98, 99, 100, 101, 102]⟩) (.int .u8 (n : Int))).run Tryd.prog w = .ok (.int .u8 ((hexd n).toNat : Int)) w := by
  rw [run_index_string w 9 _ .u8 n Tryd.underlying9, dif_pos ⟨by omega, by show (n : Int) < 16; omega⟩]
  have : ∀ n : Nat, n < 16 → ∀ h', ((⟨#[48, 49, 50, 51, 52, 53, 54, 55, 56, 57, 97, 98, 99, 100, 101, 102]⟩ : ByteArray)[n]'h').toNat = (hexd n).toNat := by decide
  simp only [Int.toNat_natCast]
  rw [this n h]

end Go.Proofs.YtjfnaedcdmmigaaDoor

namespace Go.Proofs.YtjfnaedcdmmigaaDoor
open Go.RowKit
set_option linter.unusedSimpArgs false
set_option linter.unusedVariables false

/-- What a rune or a stray counts as in the order. -/
def pPlace (l : List UInt8) (k r : Nat) : Nat := if pStray l k r then 2000000 + (l.getD k 0).toNat else r
set_option maxHeartbeats 400000 in
theorem place_calls (l : List UInt8) (k r : Nat) (hk : k < l.length) (hl : l.length ≤ 9223372036854775807) (w : World) :
    Calls Tryd.prog 100 #[.string (str l), .int .i64 (k : Int), .int .i32 (r : Int)] w fun e w' => e = .returned (.int .i32 (pPlace l k r : Int)) ∧ w' = w := by
  have hst := isStray_calls l k r (by omega) hl
  have hix := str_index l k hk
  generalize hP : pPlace l k r = P
  have HP := hide hP
  clear hP
  generalize hbx : l.getD k 0 = bx at hix
  have Hbx := hide hbx
  have hb8 := bx.toNat_lt
  clear hbx
  cases hc : pStray l k r with
  | true =>
    rw [hc] at hst
    have Hst := hide hst
    have hp : P = 2000000 + bx.toNat := by rw [← unhide HP, pPlace, if_pos hc, unhide Hbx]
    have Hp := hide hp
    have w1 : IntKind.i32.wrap (2000000 + (bx.toNat : Int)) = 2000000 + (bx.toNat : Int) := by rw [IntKind.wrap_i32]; omega
    have w2 : IntKind.i32.wrap (bx.toNat : Int) = (bx.toNat : Int) := by rw [IntKind.wrap_i32]; omega
    clear hst hc hp
    go_enter Tryd.func100, Tryd.ntmps100
    go_wp2_with (go_at_call 118; refine (unhide Hst _).mono ?_; rintro e w' ⟨rfl, rfl⟩)
    go_ret
    refine ⟨?_, rfl⟩
    rw [unhide Hp]; simp
  | false =>
    rw [hc] at hst
    have Hst := hide hst
    have hp : P = r := by rw [← unhide HP, pPlace, if_neg (by rw [hc]; exact Bool.false_ne_true)]
    have Hp := hide hp
    clear hst hc hp
    go_enter Tryd.func100, Tryd.ntmps100
    go_wp2_with (go_at_call 118; refine (unhide Hst _).mono ?_; rintro e w' ⟨rfl, rfl⟩)
    go_ret
    refine ⟨?_, rfl⟩
    rw [unhide Hp]; rfl
end Go.Proofs.YtjfnaedcdmmigaaDoor
