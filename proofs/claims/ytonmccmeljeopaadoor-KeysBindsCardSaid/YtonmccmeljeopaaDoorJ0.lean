/-
  THE LIBRARY'S CONTRACTS THAT THIS SEAT'S PROOFS USE, AT ITS OWN NUMBERS: strings.Builder, strings.Clone.
-/
/-
  WORDS OF 32 BITS AS BitVec 32, IN THE WALK'S SPELLING. Plain lemmas: what the walk writes for Go's operators on uint32 (over Int), said of BitVec's own operations. No program is named here.
-/
/-
  A Go STRING AS A LIST OF BYTES. Plain definitions and lemmas.
-/
/-
  THE LIBRARY'S CONTRACT OF strings.Builder's WriteString AT THIS SEAT'S NUMBERS; a builder behind calls that leave it.
-/
/-
  SMALL LAWS OF OUR OWN, OVER WHATEVER PROGRAM: an element of an array by value; a copy into a row that is known whole, the world behind it a letter.
-/
/-
  BYTES AS CELLS OF MEMORY. Plain definitions and lemmas; a new row of noughts.
-/
/-
  WHAT wire's number, Byte, Word, Long, Text RETURN: a number in so many bytes, the highest first.
-/
/-
  WHAT wire's Byte, Word, Long, Text RETURN.
-/
/-
  WHAT THE SMALL FUNCTIONS OF sha AND OF ITS REFERENCE RETURN: one contract each.
-/
/-
  THE WORDS THAT A BLOCK IS DRAWN OUT TO, AS LISTS. Plain definitions and lemmas. No program is named here.
-/
/-
  WHAT sha.wordAt AND sha.schedule RETURN.
-/
/-
  WHAT A BLOCK DOES TO THE EIGHT WORDS. Plain definitions and lemmas.
-/
/-
  WHAT sha.Block RETURNS.
-/
/-
  STATES, PADDING, SUMS AS LISTS OF BYTES. Plain definitions and lemmas.
-/
/-
  WHAT sha.through RETURNS.
-/
/-
  A REGION THAT DRAWS ITS ORDER: quiet operations first (reads; calls that lay memory and turn none), then a tail whose order is forced (a store): one walk in the text's order, the worlds of the quiet part a class. Over whatever program.
-/
import Derived.Shelf.Strings.BuilderK
import Derived.Shelf.Strings.BuilderRune
import Derived.Shelf.Strconv.Clone
import Derived.Test.YtonmccmeljeopaaDoorProg
import Derived.WalkKit
import Derived.Lib.Strings
import Derived.WalkSmall
import Derived.Laws.CopyOwn
import Derived.ChangeKeysEq
import Derived.Laws.MakeOwn
import Derived.Lib.UnsafeStr
import Derived.Laws.IdiomStrings
import Derived.WalkSpells
import Derived.WalkLawsBesides
import Derived.BigQuiet
import Derived.Deep.QuietTactic
import Derived.Laws.Rows
import Derived.StillTailTactics
import Derived.Deep.Quiet
import Derived.StillTail
import Derived.Below
import Derived.Lib.QuietBelow
namespace Go.Proofs
open Go.Shelf
def Tryd.lays316_ren : Go.Shelf.Ren := ⟨fun | 316 => 72 | n => n, fun | 0 => 0 | 3 => 3 | 4 => 4 | 5 => 5 | 9 => 9 | 37 => 71 | 127 => 97 | n => n, fun | n => n⟩
theorem Tryd.lays316 : Go.Proofs.LaysM.n316 Tryd.prog Tryd.lays316_ren := {
  mixed := by kernel_rfl
  f316 := Tryd.func72.trans (congrArg some (by kernel_rfl))
  t0 := Tryd.underlying0
  a0 := Tryd.isAgg0
  z0 := Tryd.sizeOf0
  v0 := Tryd.zeroValue0
  t3 := Tryd.underlying3
  a3 := Tryd.isAgg3
  z3 := Tryd.sizeOf3
  v3 := Tryd.zeroValue3
  t4 := Tryd.underlying4
  a4 := Tryd.isAgg4
  z4 := Tryd.sizeOf4
  v4 := Tryd.zeroValue4
  t9 := Tryd.underlying9
  a9 := Tryd.isAgg9
  z9 := Tryd.sizeOf9
  v9 := Tryd.zeroValue9
  t37 := Tryd.underlying71
  a37 := Tryd.isAgg71
  z37 := Tryd.sizeOf71
  v37 := Tryd.zeroValue71
  t127 := Tryd.underlying97
  a127 := Tryd.isAgg97
  z127 := Tryd.sizeOf97
  v127 := Tryd.zeroValue97
  t5 := Tryd.underlying5
  a5 := Tryd.isAgg5
  z5 := Tryd.sizeOf5
  v5 := Tryd.zeroValue5
  i0 := by kernel_rfl
  i3 := by kernel_rfl
  i4 := by kernel_rfl
  i5 := by kernel_rfl
  i9 := by kernel_rfl
  i37 := by kernel_rfl
  i127 := by kernel_rfl }
def Tryd.lays169_ren : Go.Shelf.Ren := ⟨fun | 169 => 46 | n => n, fun | 0 => 0 | 3 => 3 | 5 => 5 | 9 => 9 | 37 => 71 | 70 => 83 | 72 => 85 | 127 => 97 | n => n, fun | n => n⟩
theorem Tryd.lays169 : Go.Proofs.Lays.n169 Tryd.prog Tryd.lays169_ren := {
  mixed := by kernel_rfl
  f169 := Tryd.func46.trans (congrArg some (by kernel_rfl))
  t0 := Tryd.underlying0
  a0 := Tryd.isAgg0
  z0 := Tryd.sizeOf0
  v0 := Tryd.zeroValue0
  t3 := Tryd.underlying3
  a3 := Tryd.isAgg3
  z3 := Tryd.sizeOf3
  v3 := Tryd.zeroValue3
  t9 := Tryd.underlying9
  a9 := Tryd.isAgg9
  z9 := Tryd.sizeOf9
  v9 := Tryd.zeroValue9
  t37 := Tryd.underlying71
  a37 := Tryd.isAgg71
  z37 := Tryd.sizeOf71
  v37 := Tryd.zeroValue71
  t70 := Tryd.underlying83
  a70 := Tryd.isAgg83
  z70 := Tryd.sizeOf83
  v70 := Tryd.zeroValue83
  t72 := Tryd.underlying85
  a72 := Tryd.isAgg85
  z72 := Tryd.sizeOf85
  v72 := Tryd.zeroValue85
  t127 := Tryd.underlying97
  a127 := Tryd.isAgg97
  z127 := Tryd.sizeOf97
  v127 := Tryd.zeroValue97 }
theorem Tryd.Builder_Extra_169 : Builder.Extra Tryd.prog Tryd.lays169_ren := {
  sizeBuilder := by kernel_rfl
  liesBuilder := by kernel_rfl
  t5 := Tryd.underlying5
  a5 := Tryd.isAgg5
  z5 := Tryd.sizeOf5
  v5 := Tryd.zeroValue5
  infoByte := by kernel_rfl
  cellsByte := by kernel_rfl
  sizeByte := by kernel_rfl
  neB5 := by decide }
namespace YtonmccmeljeopaaDoor
open Go.RowKit
theorem clone_inner (s : ByteArray) (w : World) (h : s.size ≤ 281474976710656) : Calls Tryd.prog 72 #[.string s] w fun e w' => e = .returned (.string s) ∧ Below w.heap.size w w' :=
  Any.stringslite_Clone Tryd.lays316 s w h
set_option maxHeartbeats 400000 in
theorem clone_calls (s : ByteArray) (w : World) (h : s.size ≤ 281474976710656) : Calls Tryd.prog 67 #[.string s] w fun e w' => e = .returned (.string s) ∧ Below w.heap.size w w' := by
  go_enter Tryd.func67, Tryd.ntmps67
  go_wp2_with (go_at_call 72; refine (clone_inner _ _ h).mono ?_; rintro e w' ⟨rfl, hb⟩)
  go_ret
  exact ⟨rfl, hb⟩
theorem string_calls (B b : Nat) (l : List UInt8) (w : World) (h : Lib.IsBuilderF 85 5 B b (Lib.byteCells l) w) (hBw : B ≤ w.heap.size) :
    Calls Tryd.prog 46 #[.pointer (some ⟨b, 0, none⟩)] w fun e w' => e = .returned (.string ⟨l.toArray⟩) ∧ (Lib.IsBuilderF 85 5 B b (Lib.byteCells l) w' ∧ Below B w w' ∧ Lib.OthersKept 5 (some b) w w') :=
  Any.Builder_String_any_k Tryd.lays169 Tryd.Builder_Extra_169 B b l w h hBw
end YtonmccmeljeopaaDoor
end Go.Proofs

namespace Go.Proofs.YtonmccmeljeopaaDoor
open Go.RowKit

theorem hide {p : Prop} (h : p) : Hid p := h
theorem unhide {p : Prop} (h : Hid p) : p := h
theorem wi64 (a : Int) (h : -9223372036854775808 ≤ a) (h' : a ≤ 9223372036854775807) : IntKind.i64.wrap a = a := by
  rw [IntKind.wrap_i64]; omega
theorem wu64 (a : Int) (h : 0 ≤ a) (h' : a ≤ 18446744073709551615) : IntKind.u64.wrap a = a := by
  rw [IntKind.wrap_u64]; omega
theorem lt32 (x : BitVec 32) : x.toNat < 4294967296 := x.isLt
theorem b_and (x y : BitVec 32) : bits .and .u32 (x.toNat : Int) (y.toNat : Int) = ((x &&& y).toNat : Int) := by
  rw [u32_and_nat _ _ (lt32 x) (lt32 y)]; simp
theorem b_or (x y : BitVec 32) : bits .or .u32 (x.toNat : Int) (y.toNat : Int) = ((x ||| y).toNat : Int) := by
  rw [u32_or_nat _ _ (lt32 x) (lt32 y)]; simp
theorem b_xor (x y : BitVec 32) : bits .xor .u32 (x.toNat : Int) (y.toNat : Int) = ((x ^^^ y).toNat : Int) := by
  rw [u32_xor_nat _ _ (lt32 x) (lt32 y)]; simp
theorem b_max : IntKind.u32.max = ((BitVec.allOnes 32).toNat : Int) := by decide
theorem b_not (x : BitVec 32) : bits .xor .u32 IntKind.u32.max (x.toNat : Int) = ((~~~x).toNat : Int) := by
  rw [b_max, b_xor]; congr 2
theorem b_add (x y : BitVec 32) : ((x.toNat : Int) + (y.toNat : Int)) % 4294967296 = ((x + y).toNat : Int) := by
  rw [BitVec.toNat_add]; omega
theorem b_wadd (x y : BitVec 32) : IntKind.u32.wrap ((x.toNat : Int) + (y.toNat : Int)) = ((x + y).toNat : Int) := by
  rw [IntKind.wrap_u32', b_add]
/-- A sum of words, under a name of its own: simp does not open it. -/
def addw (x y : BitVec 32) : BitVec 32 := x + y
theorem a_mod (x y : BitVec 32) : ((x.toNat : Int) + (y.toNat : Int)) % 4294967296 = ((addw x y).toNat : Int) := b_add x y
theorem a_wrap (x y : BitVec 32) : IntKind.u32.wrap ((x.toNat : Int) + (y.toNat : Int)) = ((addw x y).toNat : Int) := b_wadd x y
theorem b_shl (x : BitVec 32) (s : Nat) : ((x.toNat : Int) * 2 ^ s) % 4294967296 = ((x <<< s).toNat : Int) := by
  rw [BitVec.toNat_shiftLeft, Nat.shiftLeft_eq]
  have e : (x.toNat : Int) * 2 ^ s = ((x.toNat * 2 ^ s : Nat) : Int) := by simp
  rw [e]; generalize x.toNat * 2 ^ s = m; omega
theorem b_shr (x : BitVec 32) (s : Nat) : (x.toNat : Int) / 2 ^ s = ((x >>> s).toNat : Int) := by
  rw [BitVec.toNat_ushiftRight, Nat.shiftRight_eq_div_pow]; push_cast; rfl
/-- The number that Go's rotation takes of a negative count. -/
theorem b_turns : ∀ n : Nat, n < 32 → 0 < n → bits BinOp.and IntKind.u64 (IntKind.u64.wrap (-(n : Int))) 31 = ((32 - n : Nat) : Int) := by decide +kernel

end Go.Proofs.YtonmccmeljeopaaDoor

namespace Go.Proofs.YtonmccmeljeopaaDoor
open Go.RowKit
set_option linter.unusedSimpArgs false

/-- A text's bytes as a Go string. -/
def str (l : List UInt8) : ByteArray := ⟨l.toArray⟩
theorem str_list (s : ByteArray) : str s.data.toList = s := by simp [str]
@[simp] theorem str_toList (l : List UInt8) : (str l).data.toList = l := by simp [str]
@[simp] theorem str_size (l : List UInt8) : (str l).size = l.length := by simp [str, ByteArray.size]
theorem size_list (s : ByteArray) : s.data.toList.length = s.size := by rw [Array.length_toList]; rfl
theorem str_inj {l m : List UInt8} (h : str l = str m) : l = m := by
  have := congrArg (fun s : ByteArray => s.data.toList) h
  simpa using this

theorem take_str (l : List UInt8) (n : Nat) : (str l).extract 0 n = str (l.take n) := by
  apply ByteArray.ext; simp [str]
theorem drop_str (l : List UInt8) (n m : Nat) (h : m = l.length) : (str l).extract n m = str (l.drop n) := by
  subst h; apply ByteArray.ext; simp [str]; exact List.take_of_length_le (by simp)
theorem append_str (l m : List UInt8) : str l ++ str m = str (l ++ m) := by
  apply ByteArray.ext; simp [str]

theorem byte_at (s : ByteArray) (k : Nat) (h : k < s.size) : s[k] = s.data.toList.getD k 0 := by
  have h' : k < s.data.size := h
  have e : s.data.toList[k]? = some s.data[k] := by simp
  rw [List.getD_eq_getElem?_getD, e]; rfl

end Go.Proofs.YtonmccmeljeopaaDoor

namespace Go.Proofs
open Go.Shelf
def Tryd.lays166_ren : Go.Shelf.Ren := ⟨fun | 166 => 45 | 240 => 55 | 276 => 64 | n => n, fun | 0 => 0 | 3 => 3 | 4 => 4 | 5 => 5 | 9 => 9 | 20 => 20 | 37 => 71 | 70 => 83 | 72 => 85 | 75 => 87 | 80 => 90 | 164 => 115 | n => n, fun | n => n⟩
theorem Tryd.lays166 : Go.Proofs.Lays.n166 Tryd.prog Tryd.lays166_ren := {
  mixed := by kernel_rfl
  f166 := Tryd.func45.trans (congrArg some (by kernel_rfl))
  f240 := Tryd.func55.trans (congrArg some (by kernel_rfl))
  f276 := Tryd.func64.trans (congrArg some (by kernel_rfl))
  t0 := Tryd.underlying0
  a0 := Tryd.isAgg0
  z0 := Tryd.sizeOf0
  v0 := Tryd.zeroValue0
  t3 := Tryd.underlying3
  a3 := Tryd.isAgg3
  z3 := Tryd.sizeOf3
  v3 := Tryd.zeroValue3
  t4 := Tryd.underlying4
  a4 := Tryd.isAgg4
  z4 := Tryd.sizeOf4
  v4 := Tryd.zeroValue4
  t9 := Tryd.underlying9
  a9 := Tryd.isAgg9
  z9 := Tryd.sizeOf9
  v9 := Tryd.zeroValue9
  t20 := Tryd.underlying20
  a20 := Tryd.isAgg20
  z20 := Tryd.sizeOf20
  v20 := Tryd.zeroValue20
  t37 := Tryd.underlying71
  a37 := Tryd.isAgg71
  z37 := Tryd.sizeOf71
  v37 := Tryd.zeroValue71
  t70 := Tryd.underlying83
  a70 := Tryd.isAgg83
  z70 := Tryd.sizeOf83
  v70 := Tryd.zeroValue83
  t72 := Tryd.underlying85
  a72 := Tryd.isAgg85
  z72 := Tryd.sizeOf85
  v72 := Tryd.zeroValue85
  t75 := Tryd.underlying87
  a75 := Tryd.isAgg87
  z75 := Tryd.sizeOf87
  v75 := Tryd.zeroValue87
  t164 := Tryd.underlying115
  a164 := Tryd.isAgg115
  z164 := Tryd.sizeOf115
  v164 := Tryd.zeroValue115 }
theorem Tryd.Builder_Extra_166 : Builder.Extra Tryd.prog Tryd.lays166_ren := {
  sizeBuilder := by kernel_rfl
  liesBuilder := by kernel_rfl
  t5 := Tryd.underlying5
  a5 := Tryd.isAgg5
  z5 := Tryd.sizeOf5
  v5 := Tryd.zeroValue5
  infoByte := by kernel_rfl
  cellsByte := by kernel_rfl
  sizeByte := by kernel_rfl
  neB5 := by decide }
namespace YtonmccmeljeopaaDoor
open Go.RowKit
theorem writeString_calls (B b : Nat) (bs : List Value) (s : ByteArray) (w : World) (h : Lib.IsBuilderF 85 5 B b bs w) (hlen : bs.length + s.size ≤ 140737488355328) (hBw : B ≤ w.heap.size) :
    Calls Tryd.prog 45 #[.pointer (some ⟨b, 0, none⟩), .string s] w fun e w' => e = .returned (.tuple #[.int .i64 s.size, .nilIface]) ∧ (Lib.BuilderAtF 85 5 B b (.pointer (some ⟨b, 0, none⟩)) (bs ++ Lib.strCells s) w' ∧ Below B w w' ∧ Lib.OthersKept 5 (some b) w w') :=
  Any.Builder_WriteString_k Tryd.lays166 Tryd.Builder_Extra_166 B b bs s w h hlen hBw
theorem builder_below {T e : TypeId} {B b : Nat} {p : Value} {bs : List Value} {w w' : World} (h : Lib.BuilderAtF T e B b p bs w) (hb : Below w.heap.size w w') : Lib.BuilderAtF T e B b p bs w' := by
  obtain ⟨hB, v, hv, ⟨h1, h2⟩, hne⟩ := h
  have lt : ∀ k o, w.heap[k]? = some o → k < w.heap.size := fun k o ho => (Array.getElem?_eq_some_iff.1 ho).1
  refine ⟨hB, v, (hb.block b (lt _ _ hv)).trans hv, ⟨h1, ?_⟩, hne⟩
  rcases h2 with h2 | ⟨g, cap, cur, fz, rfl, hg, hh, hrest⟩
  · exact .inl h2
  · exact .inr ⟨g, cap, cur, fz, rfl, hg, (hb.block g (lt _ _ hh)).trans hh, hrest⟩
theorem isBuilder_below {T e : TypeId} {B b : Nat} {bs : List Value} {w w' : World} (h : Lib.IsBuilderF T e B b bs w) (hb : Below w.heap.size w w') : Lib.IsBuilderF T e B b bs w' :=
  h.elim (fun h => .inl (builder_below h hb)) (fun h => .inr (builder_below h hb))
end YtonmccmeljeopaaDoor
end Go.Proofs

namespace Go.Proofs.YtonmccmeljeopaaDoor
open Go Go.RowKit

/-- 'a[i]' of an array by value whose elements take one cell. -/
theorem run_index_row {P : Program} (t e : TypeId) (n : Nat) (cs : Array Value) (k : Nat) (v : Value) (hu : P.underlying t = some (.array n e)) (he : P.plainKey e = true) (hs : (P.info? e).map (·.size) = some 1)
    (hk : k < n) (hv : cs[k]? = some v) (w : World) : (Instr.index t (.agg cs) (.int .i64 (k : Int))).run P w = .ok v w := by
  cases hq : P.info? e with
  | none => simp [hq] at hs
  | some i =>
    have hi : i.size = 1 := by simpa [hq] using hs
    have hp := run_part_plain (w := w) he (xs := cs) (off := k) hv
    simp [Instr.index, asIntOf, run_underlying hu, hk, sizeOf, typeInfo, hq, hi, hp]

/-- A copy into a row known whole: the world behind it is a letter of which all is known. -/
theorem wpList_copy_abs {P : Program} {w : World} {ops : Array Oper} {rest : List Oper} {o : Oper} {a : Act} {Q : Exit → Act → World → Prop} (hgd : o.guard = none) (d s : Operand) (dT sT : TypeId)
    (ho : o.op = .call { callee := .builtin .copy, args := #[d, s], argTypes := #[dT, sT] }) (elem : TypeId) (hu : P.underlying dT = some (.slice elem)) (hsz : (P.info? elem).map (·.size) = some 1)
    (g off dLen dCap : Nat) (ad : Addr) (sLen sCap : Nat) (hd : a.eval d = .slice (some ⟨g, off, none⟩) dLen dCap) (hs : a.eval s = .slice (some ad) sLen sCap)
    (cur : Array Value) (t : TypeId) (hg : w.heap[g]? = some (.cells cur t (0, 0))) (cs : List Value) (hn : cs.length = Nat.min sLen dLen)
    (hsrc : ∀ j v, cs[j]? = some v → w.cell? (ad.add j) = some v) (hfit : off + cs.length ≤ cur.size) (h1 : ∀ v ∈ cs, v.oneCell' = true)
    (new : Array Value) (hnew : (cur.toList.take off ++ (cs ++ cur.toList.drop (off + cs.length))).toArray = new)
    (h : ∀ w', w'.heap[g]? = some (.cells new t (0, 0)) → (∀ k, k ≠ g → w'.heap[k]? = w.heap[k]?) → w'.heap.size = w.heap.size → Below g w w' → wpList P ops Q rest (a.put o.dst (goInt cs.length)) w') :
    wpList P ops Q (o :: rest) a w := by
  refine wpList_copy_own hgd d s dT sT ho elem hu hsz g off dLen dCap ad sLen sCap hd hs cur t hg cs hn hsrc hfit h1 ?_
  rw [hnew]
  exact h _ (setRow_heap w g _ _ t _ hg) (fun k hk => setRow_other w g k _ hk) (setRow_size w g _) (below_setRow (Below.refl _ _) (Nat.le_refl _) _)

theorem src_of_row (w : World) (g : Nat) (t : TypeId) (fr : Nat × Nat) (cur : Array Value) (hg : w.heap[g]? = some (.cells cur t fr)) (cs : List Value) (hp : cs <+: cur.toList) (j : Nat) (v : Value) (hv : cs[j]? = some v) :
    w.cell? ((⟨g, 0, none⟩ : Addr).add j) = some v := by
  have hadd : (⟨g, 0, none⟩ : Addr).add j = ⟨g, j, none⟩ := by unfold Addr.add; split <;> simp_all
  rw [hadd, cell_of_row w g j cur t fr hg]
  obtain ⟨r, hr⟩ := hp
  have : cur.toList[j]? = some v := by
    rw [← hr, List.getElem?_append_left (List.getElem?_eq_some_iff.1 hv).1]; exact hv
  simpa using this
theorem al1 (w : World) (A : Obj) : (w.alloc A).heap[w.heap.size]? = some A := by show (w.heap.push A)[w.heap.size]? = _; simp
theorem al2 (w : World) (A B : Obj) : ((w.alloc A).alloc B).heap[w.heap.size]? = some A ∧ ((w.alloc A).alloc B).heap[w.heap.size + 1]? = some B := by
  refine ⟨?_, ?_⟩
  · rw [Below.heap_alloc _ _ _ (by simp), al1]
  · have := al1 (w.alloc A) B; rwa [World.size_alloc] at this
theorem al3 (w : World) (A B C : Obj) : (((w.alloc A).alloc B).alloc C).heap[w.heap.size]? = some A ∧ (((w.alloc A).alloc B).alloc C).heap[w.heap.size + 1]? = some B ∧ (((w.alloc A).alloc B).alloc C).heap[w.heap.size + 1 + 1]? = some C := by
  refine ⟨?_, ?_, ?_⟩
  · rw [Below.heap_alloc _ _ _ (by simp; omega), (al2 w A B).1]
  · rw [Below.heap_alloc _ _ _ (by simp), (al2 w A B).2]
  · have := al1 ((w.alloc A).alloc B) C; rwa [World.size_alloc, World.size_alloc] at this
theorem bel2 (w : World) (A B : Obj) : Below w.heap.size w ((w.alloc A).alloc B) := ((Below.refl _ _).alloc (Nat.le_refl _) _).alloc (by simp) _
theorem bel3 (w : World) (A B C : Obj) : Below w.heap.size w (((w.alloc A).alloc B).alloc C) := (bel2 w A B).alloc (by simp; omega) _
/-- Behind a call that kept all blocks: what lay there lies there. -/
theorem Below.at {B : Nat} {w w' : World} (h : Below B w w') {k : Nat} {o : Option Obj} (hk : k < B) (ho : w.heap[k]? = o) : w'.heap[k]? = o := (h.block k hk).trans ho

theorem bcell {W w1 : World} (hb : Below W.heap.size W w1) : (∀ b o, b < W.heap.size → w1.cell? ⟨b, o, none⟩ = W.cell? ⟨b, o, none⟩) ∧ (∀ b o, b < W.heap.size → w1.frozen? ⟨b, o, none⟩ = W.frozen? ⟨b, o, none⟩) :=
  ⟨fun b o h => hb.cell (p := ⟨b, o, none⟩) h, fun b o h => hb.frozen (p := ⟨b, o, none⟩) h⟩
/-- A block that was laid ahead of a call, behind it. -/
theorem alloc_kept {w w' : World} {c : Array Value} {t : TypeId} (hb : Below (w.alloc (.cells c t)).heap.size (w.alloc (.cells c t)) w') :
    (∀ o, w'.cell? ⟨w.heap.size, o, none⟩ = c[o]?) ∧ (∀ o, w'.frozen? ⟨w.heap.size, o, none⟩ = false) ∧ w.heap.size < w'.heap.size ∧ Hid (w'.heap[w.heap.size]? = some (.cells c t (0, 0))) := by
  have hz := hb.size
  rw [World.size_alloc] at hz
  refine ⟨fun o => ?_, fun o => ?_, by omega, (hb.block _ (by simp)).trans (al1 _ _)⟩
  · rw [hb.cell (p := ⟨w.heap.size, o, none⟩) (by simp)]; simp
  · rw [hb.frozen (p := ⟨w.heap.size, o, none⟩) (by simp)]; simp
theorem alloc_kept_drew {w w' : World} {c : Array Value} {t : TypeId} (hb : Below (w.alloc (.cells c t)).drew.heap.size (w.alloc (.cells c t)).drew w') :
    (∀ o, w'.cell? ⟨w.heap.size, o, none⟩ = c[o]?) ∧ (∀ o, w'.frozen? ⟨w.heap.size, o, none⟩ = false) ∧ w.heap.size < w'.heap.size ∧ Hid (w'.heap[w.heap.size]? = some (.cells c t (0, 0))) :=
  alloc_kept (t := t) ⟨hb.os, hb.tape, hb.output, hb.size, hb.block⟩
theorem set8 (w : World) (g : Nat) (t : TypeId) (z0 z1 z2 z3 z4 z5 z6 z7 v0 v1 v2 v3 v4 v5 v6 v7 : Value) (hg : w.heap[g]? = some (.cells #[z0, z1, z2, z3, z4, z5, z6, z7] t (0, 0))) : ((((((((w.setCell ⟨g, 0, none⟩ v0).setCell ⟨g, 1, none⟩ v1).setCell ⟨g, 2, none⟩ v2).setCell ⟨g, 3, none⟩ v3).setCell ⟨g, 4, none⟩ v4).setCell ⟨g, 5, none⟩ v5).setCell ⟨g, 6, none⟩ v6).setCell ⟨g, 7, none⟩ v7).heap[g]? = some (.cells #[v0, v1, v2, v3, v4, v5, v6, v7] t (0, 0)) := by
  have h0 : (w.setCell ⟨g, 0, none⟩ v0).heap[g]? = some (.cells #[v0, z1, z2, z3, z4, z5, z6, z7] t (0, 0)) := heap_setCell_same _ g 0 _ t v0 hg
  have h1 : ((w.setCell ⟨g, 0, none⟩ v0).setCell ⟨g, 1, none⟩ v1).heap[g]? = some (.cells #[v0, v1, z2, z3, z4, z5, z6, z7] t (0, 0)) := heap_setCell_same _ g 1 _ t v1 h0
  have h2 : (((w.setCell ⟨g, 0, none⟩ v0).setCell ⟨g, 1, none⟩ v1).setCell ⟨g, 2, none⟩ v2).heap[g]? = some (.cells #[v0, v1, v2, z3, z4, z5, z6, z7] t (0, 0)) := heap_setCell_same _ g 2 _ t v2 h1
  have h3 : ((((w.setCell ⟨g, 0, none⟩ v0).setCell ⟨g, 1, none⟩ v1).setCell ⟨g, 2, none⟩ v2).setCell ⟨g, 3, none⟩ v3).heap[g]? = some (.cells #[v0, v1, v2, v3, z4, z5, z6, z7] t (0, 0)) := heap_setCell_same _ g 3 _ t v3 h2
  have h4 : (((((w.setCell ⟨g, 0, none⟩ v0).setCell ⟨g, 1, none⟩ v1).setCell ⟨g, 2, none⟩ v2).setCell ⟨g, 3, none⟩ v3).setCell ⟨g, 4, none⟩ v4).heap[g]? = some (.cells #[v0, v1, v2, v3, v4, z5, z6, z7] t (0, 0)) := heap_setCell_same _ g 4 _ t v4 h3
  have h5 : ((((((w.setCell ⟨g, 0, none⟩ v0).setCell ⟨g, 1, none⟩ v1).setCell ⟨g, 2, none⟩ v2).setCell ⟨g, 3, none⟩ v3).setCell ⟨g, 4, none⟩ v4).setCell ⟨g, 5, none⟩ v5).heap[g]? = some (.cells #[v0, v1, v2, v3, v4, v5, z6, z7] t (0, 0)) := heap_setCell_same _ g 5 _ t v5 h4
  have h6 : (((((((w.setCell ⟨g, 0, none⟩ v0).setCell ⟨g, 1, none⟩ v1).setCell ⟨g, 2, none⟩ v2).setCell ⟨g, 3, none⟩ v3).setCell ⟨g, 4, none⟩ v4).setCell ⟨g, 5, none⟩ v5).setCell ⟨g, 6, none⟩ v6).heap[g]? = some (.cells #[v0, v1, v2, v3, v4, v5, v6, z7] t (0, 0)) := heap_setCell_same _ g 6 _ t v6 h5
  have h7 : ((((((((w.setCell ⟨g, 0, none⟩ v0).setCell ⟨g, 1, none⟩ v1).setCell ⟨g, 2, none⟩ v2).setCell ⟨g, 3, none⟩ v3).setCell ⟨g, 4, none⟩ v4).setCell ⟨g, 5, none⟩ v5).setCell ⟨g, 6, none⟩ v6).setCell ⟨g, 7, none⟩ v7).heap[g]? = some (.cells #[v0, v1, v2, v3, v4, v5, v6, v7] t (0, 0)) := heap_setCell_same _ g 7 _ t v7 h6
  exact h7
/-- A row of memory and a slot as the two results. -/
theorem results_row_tmp {P : Program} {fn : Func} {p u : Tmp} {ty : TypeId} (h : fn.results = #[.cell p ty, .tmp u]) (tmps : Array Value) (w : World) (g : Nat) (t : TypeId) (cs : Array Value) (fr : Nat × Nat) (d : TypeDesc)
    (hp : tmps.getD p undef = .pointer (some ⟨g, 0, none⟩)) (hg : w.heap[g]? = some (.cells cs t fr))
    (hu : P.underlying ty = some d) (hd : (match d with | .struct _ | .array _ _ => true | _ => false) = true) (hi : (P.info? ty).map (·.size) = some cs.size) :
    (results fn tmps).run P w = .ok (.tuple #[.agg cs, tmps.getD u undef]) w := by
  rw [results_cell_tmp h, hp]
  simp only [asAddr, Sem.run_pure, Result.andThen_ok, run_loadVar_row w g t ty cs fr d hg hu hd hi]

end Go.Proofs.YtonmccmeljeopaaDoor

namespace Go.Proofs.YtonmccmeljeopaaDoor
open Go.RowKit
set_option linter.unusedSimpArgs false

theorem mixed : Tryd.prog.follows .mixedOrders = true := by kernel_rfl
/-- Bytes as cells. -/
def bc (l : List UInt8) : Array Value := (Lib.byteCells l).toArray
@[simp] theorem bc_size (l : List UInt8) : (bc l).size = l.length := by simp [bc, Lib.byteCells]
theorem bc_at (l : List UInt8) (j : Nat) (h : j < l.length) : (bc l)[j]? = some (.int .u8 ((l.getD j 0).toNat : Int)) := by
  simp [bc, Lib.byteCells, h]
theorem bc_set (l m : List UInt8) (z x : UInt8) (i : Nat) (hi : i = l.length) : (bc (l ++ z :: m)).setIfInBounds i (.int .u8 (x.toNat : Int)) = bc (l ++ [x] ++ m) := by
  subst hi
  simp only [bc, Lib.byteCells, List.map_append, List.map_cons, List.setIfInBounds_toArray, List.append_assoc, List.cons_append, List.nil_append]
  congr 1
  rw [List.set_append_right _ _ (by simp)]
  simp
theorem bc_oneCell (l : List UInt8) : (bc l).all (·.oneCell') = true := by
  simp [bc, Lib.byteCells, Value.oneCell']
theorem made_bytes (n : Nat) : madeCells #[Value.int .u8 0] n = bc (List.replicate n 0) := by
  apply Array.ext
  · simp [size_madeCells]
  · intro i h1 h2
    simp [madeCells, bc, Lib.byteCells]
    rw [Nat.mod_one]; rfl

theorem byte_mod (m s : Nat) : (m : Int) / 2 ^ s % 256 = ((UInt8.ofNat (m / 2 ^ s)).toNat : Int) := by
  have e : (m : Int) / 2 ^ s = ((m / 2 ^ s : Nat) : Int) := by rw [Int.natCast_ediv, Int.natCast_pow]; rfl
  rw [e, UInt8.toNat_ofNat']
  generalize m / 2 ^ s = q
  show (q : Int) % 256 = ((q % 256 : Nat) : Int)
  omega
theorem take_snoc' {α : Type} (l : List α) (k : Nat) (d : α) (h : k < l.length) : l.take (k + 1) = l.take k ++ [l.getD k d] := by
  rw [List.take_succ_eq_append_getElem h]; simp [h]

theorem make_bytes (n : Nat) (h : n ≤ 140737488355328) (w : World) : (Instr.makeSlice 71 (.int .i64 (n : Int)) (.int .i64 (n : Int))).run Tryd.prog w = .ok (.slice (some ⟨w.heap.size, 0, none⟩) n n) (w.alloc (.cells (bc (List.replicate n 0)) 5)) := by
  obtain ⟨i, hi⟩ : ∃ i, Tryd.prog.info? 5 = some i := by
    cases hq : Tryd.prog.info? 5 with
    | none => exact absurd hq (by rw [show Tryd.prog.info? 5 = some ((Tryd.prog.info? 5).getD default) by kernel_rfl]; simp)
    | some i => exact ⟨i, rfl⟩
  have e : (Tryd.prog.info? 5).map (fun i => (i.zero, i.size, i.bytes)) = some (some (.int .u8 0), 1, 1) := by kernel_rfl
  rw [hi] at e
  simp only [Option.map_some, Option.some.injEq, Prod.mk.injEq] at e
  obtain ⟨e1, e2, e3⟩ := e
  have := run_make (P := Tryd.prog) w 71 5 i (.int .u8 0) Tryd.underlying71 hi e1 .i64 .i64 n n (by omega) (by omega) (by rw [e3]; omega) (by omega)
  rw [this, e2]
  simp only [Int.toNat_natCast, Nat.mul_one]
  rw [show (Value.int IntKind.u8 0).cells = #[Value.int .u8 0] from rfl, made_bytes]

end Go.Proofs.YtonmccmeljeopaaDoor

namespace Go.Proofs.YtonmccmeljeopaaDoor
open Go.RowKit
set_option linter.unusedSimpArgs false
set_option linter.unusedVariables false

/-- A number's lowest bytes, the highest of them first. -/
def pBig (n width : Nat) : List UInt8 := (List.range width).map fun i => UInt8.ofNat (n / 2 ^ (8 * (width - 1 - i)))
theorem pBig_length (n width : Nat) : (pBig n width).length = width := by simp [pBig]
theorem pBig_at (n width i : Nat) (h : i < width) : (pBig n width).getD i 0 = UInt8.ofNat (n / 2 ^ (8 * (width - 1 - i))) := by
  simp [pBig, h]
theorem drop_cons' {α : Type} (l : List α) (k : Nat) (d : α) (h : k < l.length) : l.drop k = l.getD k d :: l.drop (k + 1) := by
  rw [List.drop_eq_getElem_cons h]; simp [h]

set_option maxHeartbeats 400000 in
set_option maxRecDepth 100000 in
theorem number_calls (n width : Nat) (hw : width ≤ 8) (hw1 : 1 ≤ width) (w : World) :
    Calls Tryd.prog 54 #[.int .u64 (n : Int), .int .i64 (width : Int)] w fun e w' => e = .returned (.string (str (pBig n width))) ∧ Below w.heap.size w w' := by
  have mk := make_bytes width (by omega)
  have hlen := pBig_length n width
  have hat := pBig_at n width
  generalize hP : pBig n width = P at *
  have HP := hide hP
  have Hlen := hide hlen
  have Hat := hide hat
  clear hP hlen hat
  go_enter Tryd.func54, Tryd.ntmps54
  go_wp2
  go_loopw [11] (fun i wr => ∃ k : Nat, k ≤ width ∧ i = .int .i64 k ∧ Below w.heap.size w wr ∧ wr.heap[w.heap.size]? = some (.cells (bc (List.replicate (width - k) 0 ++ P.drop (width - k))) 5 (0, 0))) (fun i _ => width - (intOf i).toNat)
  case atStart =>
    refine ⟨0, by omega, rfl, (Below.refl _ _).alloc (Nat.le_refl _) _, ?_⟩
    rw [al1, List.drop_of_length_le (by rw [unhide Hlen]; omega)]; simp
  case round =>
    obtain ⟨k, hk, rfl, hb, q⟩ := hrel
    by_cases hlt : k < width
    · obtain ⟨j, hj, ej⟩ : ∃ j : Nat, Hid (width - 1 - k = j) ∧ (width : Int) - 1 - (k : Int) = (j : Int) := ⟨_, rfl, by omega⟩
      have hjw : j < width := by have := unhide hj; omega
      have hsp : List.replicate (width - k) (0 : UInt8) ++ P.drop (width - k) = List.replicate j 0 ++ 0 :: P.drop (j + 1) := by
        have : width - k = j + 1 := by have := unhide hj; omega
        rw [this, List.replicate_succ']; simp
      rw [hsp] at q
      have hl : (List.replicate j 0 ++ 0 :: P.drop (j + 1) : List UInt8).length = width := by simp [unhide Hlen]; omega
      have c : wr.cell? ⟨w.heap.size, j, none⟩ = some (.int .u8 (((List.replicate j 0 ++ 0 :: P.drop (j + 1) : List UInt8).getD j 0).toNat : Int)) := by
        rw [cell_of_row _ _ _ _ _ _ q]; exact bc_at _ _ (by omega)
      have f : wr.frozen? ⟨w.heap.size, j, none⟩ = false := frozen_of_row _ _ _ _ _ q
      have b1 : (0 : Int) ≤ j ∧ (j : Int) < width := by omega
      obtain ⟨s, hs, es⟩ : ∃ s : Nat, Hid (8 * k = s) ∧ (8 : Int) * (k : Int) = (s : Int) := ⟨_, rfl, by omega⟩
      have hs64 : s ≤ 56 := by have := unhide hs; omega
      have hdk : decide ((k : Int) < (width : Int)) = true := by simp; omega
      generalize hv : (List.replicate j 0 ++ 0 :: P.drop (j + 1) : List UInt8).getD j 0 = v at c
      have Q := hide q
      clear hl hv mk q hsp
      go_wp2
      go_roundw
      case rel =>
        refine ⟨k + 1, by omega, by go_num, hb.setCell (by simp) _, ?_⟩
        rw [byte_mod, ← unhide hs, heap_setCell_same _ _ _ _ _ _ (unhide Q), bc_set _ _ _ _ _ (by simp)]
        have e1 : width - (k + 1) = j := by have := unhide hj; omega
        have e2 := unhide Hat j hjw
        have e3 : width - 1 - j = k := by have := unhide hj; omega
        rw [e3] at e2
        rw [e1, drop_cons' P j 0 (by rw [unhide Hlen]; omega), e2]; simp
      case measure => simp [intOf]; omega
    · have q' : wr.heap[w.heap.size]? = some (.cells (bc P) 5 (0, 0)) := by
        rw [q, show width - k = 0 by omega]; simp
      have hcv := run_convert_bytes_back (P := Tryd.prog) wr 71 9 5 ⟨w.heap.size, 0, none⟩ width P Tryd.underlying71 Tryd.underlying5 Tryd.underlying9 (fun j hj => by
        have hadd : (⟨w.heap.size, 0, none⟩ : Addr).add j = ⟨w.heap.size, j, none⟩ := by unfold Addr.add; split <;> simp_all
        rw [hadd, cell_of_row _ _ _ _ _ _ q', bc_at _ _ hj]; simp [hj])
      rw [unhide Hlen] at hcv
      have hd : decide ((k : Int) < (width : Int)) = false := by simp; omega
      clear q q' mk
      go_wp2
      go_ret
      exact ⟨by rfl, hb⟩
end Go.Proofs.YtonmccmeljeopaaDoor

namespace Go.Proofs.YtonmccmeljeopaaDoor
open Go.RowKit
set_option linter.unusedSimpArgs false
set_option linter.unusedVariables false

theorem wword_calls (n : Nat) (hn : n < 4294967296) (w : World) :
    Calls Tryd.prog 43 #[.int .u32 (n : Int)] w fun e w' => e = .returned (.string (str (pBig n 4))) ∧ Below w.heap.size w w' := by
  have hc := number_calls n 4 (by decide) (by decide) w
  generalize pBig n 4 = B at *
  have Hc := hide hc
  clear hc
  go_enter Tryd.func43, Tryd.ntmps43
  go_wp2_with fail
  refine (unhide Hc).mono ?_
  rintro e w' ⟨rfl, hb⟩
  go_wp2
  go_ret
  exact ⟨rfl, hb⟩
theorem wbyte_calls (n : Nat) (hn : n < 256) (w : World) :
    Calls Tryd.prog 44 #[.int .u8 (n : Int)] w fun e w' => e = .returned (.string (str (pBig n 1))) ∧ Below w.heap.size w w' := by
  have hc := number_calls n 1 (by decide) (by decide) w
  generalize pBig n 1 = B at *
  have Hc := hide hc
  clear hc
  go_enter Tryd.func44, Tryd.ntmps44
  go_wp2_with fail
  refine (unhide Hc).mono ?_
  rintro e w' ⟨rfl, hb⟩
  go_wp2
  go_ret
  exact ⟨rfl, hb⟩
/-- A text's length, and it. -/
def pText4 (l : List UInt8) : List UInt8 := pBig l.length 4 ++ l
theorem pText4_length (l : List UInt8) : (pText4 l).length = 4 + l.length := by unfold pText4; rw [List.length_append, pBig_length]
theorem wtext_calls (l : List UInt8) (hl : l.length < 4294967296) (w : World) :
    Calls Tryd.prog 60 #[.string (str l)] w fun e w' => e = .returned (.string (str (pText4 l))) ∧ Below w.heap.size w w' := by
  have hc := wword_calls l.length hl w
  unfold pText4
  have hlen := pBig_length l.length 4
  generalize pBig l.length 4 = B at *
  have Hc := hide hc
  have ea := append_str B l
  have n1 : ¬ 9223372036854775807 < B.length + l.length := by omega
  clear hc hlen
  go_enter Tryd.func60, Tryd.ntmps60
  go_wp2_with fail
  refine (unhide Hc).mono ?_
  rintro e w' ⟨rfl, hb⟩
  go_wp2
  go_ret
  exact ⟨rfl, hb⟩
end Go.Proofs.YtonmccmeljeopaaDoor

namespace Go.Proofs.YtonmccmeljeopaaDoor
open Go.RowKit

/-- A word turned to the left. -/
def rotl (x : BitVec 32) (s : Nat) : BitVec 32 := x <<< s ||| x >>> (32 - s)
/-- A word turned to the right. -/
def rotr (x : BitVec 32) (n : Nat) : BitVec 32 := rotl x (32 - n)
def pChoice (x y z : BitVec 32) : BitVec 32 := (x &&& y) ^^^ (~~~x &&& z)
def pMajority (x y z : BitVec 32) : BitVec 32 := ((x &&& y) ^^^ (x &&& z)) ^^^ (y &&& z)
def pBigZero (x : BitVec 32) : BitVec 32 := (rotr x 2 ^^^ rotr x 13) ^^^ rotr x 22
def pBigOne (x : BitVec 32) : BitVec 32 := (rotr x 6 ^^^ rotr x 11) ^^^ rotr x 25
def pSmallZero (x : BitVec 32) : BitVec 32 := (rotr x 7 ^^^ rotr x 18) ^^^ (x >>> 3)
def pSmallOne (x : BitVec 32) : BitVec 32 := (rotr x 17 ^^^ rotr x 19) ^^^ (x >>> 10)

set_option maxHeartbeats 400000 in
theorem rotateLeft_calls (x : BitVec 32) (k : Int) (s : Nat) (hs : bits BinOp.and IntKind.u64 (IntKind.u64.wrap k) 31 = (s:Int)) (h: s < 32) (w : World) :
    Calls Tryd.prog 82 #[.int .u32 x.toNat, .int .i64 k] w fun e w' => e = .returned (.int .u32 (rotl x s).toNat) ∧ w' = w := by
  go_enter Tryd.func82, Tryd.ntmps82
  go_wp2
  go_ret
  refine ⟨?_, rfl⟩
  show Ending.returned (.int .u32 (bits BinOp.or IntKind.u32 (↑x.toNat * 2 ^ s % 4294967296) (↑x.toNat / 2 ^ (32 - s)))) = _
  rw [b_shl, b_shr, b_or]; rfl

set_option maxHeartbeats 400000 in
theorem turn_calls (x : BitVec 32) (n : Int) (h0 : 0 < n) (h : n < 32) (w : World) :
    Calls Tryd.prog 81 #[.int .u32 x.toNat, .int .i64 n] w fun e w' => e = .returned (.int .u32 (rotr x n.toNat).toNat) ∧ w' = w := by
  obtain ⟨m, rfl⟩ := Int.eq_ofNat_of_zero_le (Int.le_of_lt h0)
  have ht := hide (b_turns m (by omega) (by omega))
  go_enter Tryd.func81, Tryd.ntmps81
  go_wp2_with (go_at_call 82; refine (rotateLeft_calls x _ (32 - m) (unhide ht) (by omega) _).mono ?_; rintro e w' ⟨rfl, rfl⟩)
  go_ret
  exact ⟨rfl, rfl⟩

set_option maxHeartbeats 400000 in
theorem choice_calls (x y z : BitVec 32) (w : World) :
    Calls Tryd.prog 75 #[.int .u32 x.toNat, .int .u32 y.toNat, .int .u32 z.toNat] w fun e w' => e = .returned (.int .u32 (pChoice x y z).toNat) ∧ w' = w := by
  go_enter Tryd.func75, Tryd.ntmps75
  go_wp2
  go_ret
  refine ⟨?_, rfl⟩
  · show Ending.returned (.int .u32 (bits BinOp.xor IntKind.u32 (bits BinOp.and IntKind.u32 ↑x.toNat ↑y.toNat) (bits BinOp.and IntKind.u32 (bits BinOp.xor IntKind.u32 IntKind.u32.max ↑x.toNat) ↑z.toNat))) = _
    rw [b_not, b_and, b_and, b_xor]; rfl

set_option maxHeartbeats 400000 in
theorem majority_calls (x y z : BitVec 32) (w : World) :
    Calls Tryd.prog 77 #[.int .u32 x.toNat, .int .u32 y.toNat, .int .u32 z.toNat] w fun e w' => e = .returned (.int .u32 (pMajority x y z).toNat) ∧ w' = w := by
  go_enter Tryd.func77, Tryd.ntmps77
  go_wp2
  go_ret
  refine ⟨?_, rfl⟩
  show Ending.returned (.int .u32 (bits BinOp.xor IntKind.u32 (bits BinOp.xor IntKind.u32 (bits BinOp.and IntKind.u32 ↑x.toNat ↑y.toNat) (bits BinOp.and IntKind.u32 ↑x.toNat ↑z.toNat)) (bits BinOp.and IntKind.u32 ↑y.toNat ↑z.toNat))) = _
  rw [b_and, b_and, b_and, b_xor, b_xor]; rfl

set_option maxHeartbeats 400000 in
theorem bigZero_calls (x : BitVec 32) (w : World) :
    Calls Tryd.prog 76 #[.int .u32 x.toNat] w fun e w' => e = .returned (.int .u32 (pBigZero x).toNat) ∧ w' = w := by
  go_enter Tryd.func76, Tryd.ntmps76
  go_wp2_with (go_at_call 81; refine (turn_calls _ _ (by omega) (by omega) _).mono ?_; rintro e w' ⟨rfl, rfl⟩)
  go_ret
  refine ⟨?_, rfl⟩
  show Ending.returned (.int .u32 (bits BinOp.xor IntKind.u32 (bits BinOp.xor IntKind.u32 ↑(rotr x 2).toNat ↑(rotr x 13).toNat) ↑(rotr x 22).toNat)) = _
  rw [b_xor, b_xor]; rfl

set_option maxHeartbeats 400000 in
theorem bigOne_calls (x : BitVec 32) (w : World) :
    Calls Tryd.prog 74 #[.int .u32 x.toNat] w fun e w' => e = .returned (.int .u32 (pBigOne x).toNat) ∧ w' = w := by
  go_enter Tryd.func74, Tryd.ntmps74
  go_wp2_with (go_at_call 81; refine (turn_calls _ _ (by omega) (by omega) _).mono ?_; rintro e w' ⟨rfl, rfl⟩)
  go_ret
  refine ⟨?_, rfl⟩
  show Ending.returned (.int .u32 (bits BinOp.xor IntKind.u32 (bits BinOp.xor IntKind.u32 ↑(rotr x 6).toNat ↑(rotr x 11).toNat) ↑(rotr x 25).toNat)) = _
  rw [b_xor, b_xor]; rfl

set_option maxHeartbeats 400000 in
theorem smallZero_calls (x : BitVec 32) (w : World) :
    Calls Tryd.prog 80 #[.int .u32 x.toNat] w fun e w' => e = .returned (.int .u32 (pSmallZero x).toNat) ∧ w' = w := by
  go_enter Tryd.func80, Tryd.ntmps80
  go_wp2_with (go_at_call 81; refine (turn_calls _ _ (by omega) (by omega) _).mono ?_; rintro e w' ⟨rfl, rfl⟩)
  go_ret
  refine ⟨?_, rfl⟩
  show Ending.returned (.int .u32 (bits BinOp.xor IntKind.u32 (bits BinOp.xor IntKind.u32 ↑(rotr x 7).toNat ↑(rotr x 18).toNat) ((x.toNat : Int) / 8))) = _
  rw [show (x.toNat : Int) / (8 : Int) = ((x >>> 3).toNat : Int) from b_shr x 3]
  rw [b_xor, b_xor]; rfl

set_option maxHeartbeats 400000 in
theorem smallOne_calls (x : BitVec 32) (w : World) :
    Calls Tryd.prog 79 #[.int .u32 x.toNat] w fun e w' => e = .returned (.int .u32 (pSmallOne x).toNat) ∧ w' = w := by
  go_enter Tryd.func79, Tryd.ntmps79
  go_wp2_with (go_at_call 81; refine (turn_calls _ _ (by omega) (by omega) _).mono ?_; rintro e w' ⟨rfl, rfl⟩)
  go_ret
  refine ⟨?_, rfl⟩
  show Ending.returned (.int .u32 (bits BinOp.xor IntKind.u32 (bits BinOp.xor IntKind.u32 ↑(rotr x 17).toNat ↑(rotr x 19).toNat) ((x.toNat : Int) / 1024))) = _
  rw [show (x.toNat : Int) / (1024 : Int) = ((x >>> 10).toNat : Int) from b_shr x 10]
  rw [b_xor, b_xor]; rfl

end Go.Proofs.YtonmccmeljeopaaDoor

namespace Go.Proofs.YtonmccmeljeopaaDoor
open Go.RowKit

/-- Four bytes as a word, the highest first. -/
def word (a b c d : UInt8) : BitVec 32 := BitVec.ofNat 32 (a.toNat * 16777216 + b.toNat * 65536 + c.toNat * 256 + d.toNat)
/-- The word at a place of a text. -/
def wAt (l : List UInt8) (k : Nat) : BitVec 32 := word (l.getD k 0) (l.getD (k + 1) 0) (l.getD (k + 2) 0) (l.getD (k + 3) 0)
def sched16 (l : List UInt8) (n : Nat) : List (BitVec 32) := (List.range n).map fun i => wAt l (4 * i)
def schedNext (ws : List (BitVec 32)) : BitVec 32 := addw (addw (addw (pSmallOne (ws.getD (ws.length - 2) 0)) (ws.getD (ws.length - 7) 0)) (pSmallZero (ws.getD (ws.length - 15) 0))) (ws.getD (ws.length - 16) 0)
def schedN (l : List UInt8) : Nat → List (BitVec 32)
  | 0 => sched16 l 16
  | k + 1 => schedN l k ++ [schedNext (schedN l k)]
def sched (l : List UInt8) : List (BitVec 32) := schedN l 48

theorem sched16_length (l : List UInt8) (n : Nat) : (sched16 l n).length = n := by simp [sched16]
theorem schedN_length (l : List UInt8) (k : Nat) : (schedN l k).length = 16 + k := by
  induction k with
  | zero => simp [schedN, sched16]
  | succ k ih => simp [schedN, ih]; omega
theorem sched_length (l : List UInt8) : (sched l).length = 64 := schedN_length l 48
theorem sched16_succ (l : List UInt8) (n : Nat) : sched16 l (n + 1) = sched16 l n ++ [wAt l (4 * n)] := by simp [sched16, List.range_succ]

/-- Words as cells of memory. -/
def wc (ws : List (BitVec 32)) : Array Value := (ws.map fun x => Value.int .u32 (x.toNat : Int)).toArray
@[simp] theorem wc_size (ws : List (BitVec 32)) : (wc ws).size = ws.length := by simp [wc]
theorem wc_at (ws : List (BitVec 32)) (j : Nat) (h : j < ws.length) : (wc ws)[j]? = some (.int .u32 ((ws.getD j 0).toNat : Int)) := by
  simp [wc, h]
theorem wc_set (ws zs : List (BitVec 32)) (z x : BitVec 32) (i : Nat) (hi : i = ws.length) : (wc (ws ++ z :: zs)).setIfInBounds i (.int .u32 (x.toNat : Int)) = wc (ws ++ [x] ++ zs) := by
  subst hi
  simp only [wc, List.map_append, List.map_cons, List.setIfInBounds_toArray, List.append_assoc, List.cons_append, List.nil_append]
  congr 1
  rw [List.set_append_right _ _ (by simp)]
  simp
theorem wc_oneCell (ws : List (BitVec 32)) : (wc ws).all (·.oneCell') = true := by
  simp [wc, Value.oneCell']

theorem word_lt (a b c d : UInt8) : a.toNat * 16777216 + b.toNat * 65536 + c.toNat * 256 + d.toNat < 4294967296 := by
  have := a.toNat_lt; have := b.toNat_lt; have := c.toNat_lt; have := d.toNat_lt; omega
theorem word_toNat (a b c d : UInt8) : (word a b c d).toNat = a.toNat * 16777216 + b.toNat * 65536 + c.toNat * 256 + d.toNat := by
  have := word_lt a b c d
  simp only [word, BitVec.toNat_ofNat]; omega
/-- The word as the code's shifts and ors lay it. -/
theorem word_or (a b c d : UInt8) : bits BinOp.or IntKind.u32 (bits BinOp.or IntKind.u32 (bits BinOp.or IntKind.u32 ((a.toNat : Int) % 4294967296 * 16777216 % 4294967296) ((b.toNat : Int) % 4294967296 * 65536 % 4294967296)) ((c.toNat : Int) % 4294967296 * 256 % 4294967296)) ((d.toNat : Int) % 4294967296) = ((word a b c d).toNat : Int) := by
  have ha := a.toNat_lt; have hb := b.toNat_lt; have hc := c.toNat_lt; have hd := d.toNat_lt
  have e1 : (a.toNat : Int) % 4294967296 * 16777216 % 4294967296 = ((a.toNat * 16777216 : Nat) : Int) := by omega
  have e2 : (b.toNat : Int) % 4294967296 * 65536 % 4294967296 = ((b.toNat * 65536 : Nat) : Int) := by omega
  have e3 : (c.toNat : Int) % 4294967296 * 256 % 4294967296 = ((c.toNat * 256 : Nat) : Int) := by omega
  have e4 : (d.toNat : Int) % 4294967296 = ((d.toNat : Nat) : Int) := by omega
  have j1 : a.toNat * 16777216 ||| b.toNat * 65536 = a.toNat * 16777216 + b.toNat * 65536 := nat_join 24 _ _ (by omega) (by omega)
  have j2 : a.toNat * 16777216 + b.toNat * 65536 ||| c.toNat * 256 = a.toNat * 16777216 + b.toNat * 65536 + c.toNat * 256 := nat_join 16 _ _ (by omega) (by omega)
  have j3 : a.toNat * 16777216 + b.toNat * 65536 + c.toNat * 256 ||| d.toNat = a.toNat * 16777216 + b.toNat * 65536 + c.toNat * 256 + d.toNat := nat_join 8 _ _ (by omega) (by omega)
  rw [e1, e2, e3, e4, u32_or_nat _ _ (by omega) (by omega), j1, u32_or_nat _ _ (by omega) (by omega), j2, u32_or_nat _ _ (by omega) (by omega), j3, word_toNat]

end Go.Proofs.YtonmccmeljeopaaDoor

namespace Go.Proofs.YtonmccmeljeopaaDoor
open Go.RowKit
set_option linter.unusedSimpArgs false
set_option linter.unusedVariables false

set_option maxHeartbeats 400000 in
theorem wordAt_calls (s : ByteArray) (k : Int) (h0 : 0 ≤ k) (h : k + 3 < s.size) (hs : s.size ≤ maxLen) (w : World) :
    Calls Tryd.prog 78 #[.string s, .int .i64 k] w fun e w' => e = .returned (.int .u32 (wAt s.data.toList k.toNat).toNat) ∧ ∃ n, w' = w.drewN n := by
  obtain ⟨k, rfl⟩ := Int.eq_ofNat_of_zero_le h0
  unfold maxLen at hs
  have h0 : (k : Int) < s.size := by omega
  have h1 : (0:Int) ≤ k + 1 ∧ (k : Int) + 1 < s.size := by omega
  have h2 : (0:Int) ≤ k + 2 ∧ (k : Int) + 2 < s.size := by omega
  have h3 : (0:Int) ≤ k + 3 ∧ (k : Int) + 3 < s.size := by omega
  have w1 := wi64 (k + 1) (by omega) (by omega)
  have w2 := wi64 (k + 2) (by omega) (by omega)
  have w3 := wi64 (k + 3) (by omega) (by omega)
  go_enter Tryd.func78, Tryd.ntmps78
  go_wp2
  go_quiet (fail)
  go_wp2
  go_ret
  refine ⟨?_, _, rfl⟩
  have e := word_or s[k] s[k + 1] s[k + 2] s[k + 3]
  refine Eq.trans (congrArg (fun x => Ending.returned (.int .u32 x)) e) ?_
  rw [byte_at s k (by omega), byte_at s (k + 1) (by omega), byte_at s (k + 2) (by omega), byte_at s (k + 3) (by omega)]
  rfl

theorem row_set (w : World) (g : Nat) (ws zs : List (BitVec 32)) (z x : BitVec 32) (i : Nat) (t : TypeId) (n : Nat) (hg : w.heap[g]? = some (.cells (wc (ws ++ z :: zs)) t (0, 0))) (hi : i = ws.length) :
    ((w.drewN n).setCell ⟨g, i, none⟩ (.int .u32 (x.toNat : Int))).heap[g]? = some (.cells (wc (ws ++ [x] ++ zs)) t (0, 0)) := by
  rw [heap_setCell_same (w.drewN n) g i _ t _ hg, wc_set ws zs z x i hi]
theorem row_other (w : World) (a : Addr) (k n : Nat) (v : Value) (o : Option Obj) (hg : w.heap[k]? = o) (h : k ≠ a.block) : ((w.drewN n).setCell a v).heap[k]? = o := by
  rw [heap_setCell_other (w.drewN n) a k v h]; exact hg

set_option maxHeartbeats 1000000 in
set_option maxRecDepth 100000 in
theorem schedule_calls (s : ByteArray) (hs : s.size = 64) (w : World) :
    Calls Tryd.prog 73 #[.string s] w fun e w' => e = .returned (.agg (wc (sched s.data.toList))) ∧ Below w.heap.size w w' := by
  go_enter Tryd.func73, Tryd.ntmps73
  go_wp2
  go_loopw [4, 6] (fun _ i wr => ∃ k : Nat, k ≤ 16 ∧ i = .int .i64 k ∧ Below w.heap.size w wr ∧ wr.heap.size = w.heap.size + 2 ∧ wr.heap[w.heap.size + 1]? = some (.cells (wc (sched16 s.data.toList k ++ List.replicate (64 - k) 0)) 122 (0, 0)) ∧ wr.heap[w.heap.size]? = some (.cells (wc (List.replicate 64 0)) 122 (0, 0))) (fun _ i _ => 16 - (intOf i).toNat)
  case atStart =>
    exact ⟨0, by omega, rfl, ((Below.refl _ _).alloc (Nat.le_refl _) _).alloc (by simp) _, by simp, heap_alloc2_new _ _ _, heap_alloc2_old _ _ _⟩
  case round =>
    obtain ⟨k, hk, rfl, hb, hz, hc, hr⟩ := hrel
    by_cases hlt : k < 16
    · have hlen : (sched16 s.data.toList k ++ List.replicate (64 - k) (0 : BitVec 32)).length = 64 := by simp [sched16_length]; omega
      have hcell : wr.cell? ⟨w.heap.size + 1, k, none⟩ = some (.int .u32 (((sched16 s.data.toList k ++ List.replicate (64 - k) (0 : BitVec 32)).getD k 0).toNat : Int)) := by
        rw [cell_of_row _ _ _ _ _ _ hc]; exact wc_at _ _ (by rw [hlen]; omega)
      have hfz : wr.frozen? ⟨w.heap.size + 1, k, none⟩ = false := frozen_of_row _ _ _ _ _ hc
      go_wp2_with (go_at_call 78; refine (wordAt_calls _ _ (by omega) (by omega) (by unfold maxLen; omega) _).mono ?_; rintro e w1 ⟨rfl, n1, rfl⟩)
      go_roundw
      case rel =>
        refine ⟨k + 1, by omega, by go_num, ?_, ?_, ?_, ?_⟩
        · exact (below_drewN hb _).setCell (by simp) _
        · simpa using hz
        · have e : List.replicate (64 - k) (0 : BitVec 32) = 0 :: List.replicate (64 - (k + 1)) 0 := by rw [show 64 - k = (64 - (k + 1)) + 1 by omega]; rfl
          rw [e] at hc
          rw [sched16_succ]
          exact row_set _ _ _ _ _ _ _ _ _ hc (sched16_length _ _).symm
        · exact row_other _ _ _ _ _ _ hr (by simp)
      case measure => simp [intOf]; omega
    · have hc' : wr.heap[w.heap.size + 1]? = some (.cells (wc (schedN s.data.toList 0 ++ List.replicate (48 - 0) 0)) 122 (0, 0)) := by
        rw [hc, show k = 16 by omega]; rfl
      have hd : decide ((k : Int) < 16) = false := by simp; omega
      clear hc
      go_wp2
      go_loopw [5] (fun i wr => ∃ k : Nat, k ≤ 48 ∧ i = .int .i64 (16 + k : Nat) ∧ Below w.heap.size w wr ∧ wr.heap.size = w.heap.size + 2 ∧ wr.heap[w.heap.size + 1]? = some (.cells (wc (schedN s.data.toList k ++ List.replicate (48 - k) 0)) 122 (0, 0)) ∧ wr.heap[w.heap.size]? = some (.cells (wc (List.replicate 64 0)) 122 (0, 0))) (fun i _ => 64 - (intOf i).toNat)
      case atStart => exact ⟨0, by omega, rfl, hb, hz, hc', hr⟩
      case round =>
        clear hb hz hr hc'
        obtain ⟨k, hk, rfl, hb, hz, hc, hr⟩ := hrel
        by_cases hlt : k < 48
        · generalize hn : 16 + k = n
          have hlen : (schedN s.data.toList k ++ List.replicate (48 - k) (0 : BitVec 32)).length = 64 := by simp [schedN_length]; omega
          have hcell : ∀ j, j < 64 → wr.cell? ⟨w.heap.size + 1, j, none⟩ = some (.int .u32 (((schedN s.data.toList k ++ List.replicate (48 - k) (0 : BitVec 32)).getD j 0).toNat : Int)) := fun j hj => by
            rw [cell_of_row _ _ _ _ _ _ hc]; exact wc_at _ _ (by rw [hlen]; omega)
          have hget : ∀ j, j < n → ∃ x : BitVec 32, Hid ((schedN s.data.toList k).getD j 0 = x) ∧ wr.cell? ⟨w.heap.size + 1, j, none⟩ = some (.int .u32 (x.toNat : Int)) := fun j hj =>
            ⟨_, rfl, by rw [hcell j (by omega), List.getD_eq_getElem?_getD, List.getElem?_append_left (by rw [schedN_length]; omega), ← List.getD_eq_getElem?_getD]⟩
          have hfz : wr.frozen? ⟨w.heap.size + 1, n, none⟩ = false := frozen_of_row _ _ _ _ _ hc
          have c0 := hcell n (by omega)
          obtain ⟨x2, e2, c2⟩ := hget (n - 2) (by omega)
          obtain ⟨x7, e7, c7⟩ := hget (n - 7) (by omega)
          obtain ⟨x15, e15, c15⟩ := hget (n - 15) (by omega)
          obtain ⟨x16, e16, c16⟩ := hget (n - 16) (by omega)
          have am := a_mod
          have aw := a_wrap
          have b0 : (0:Int) ≤ n ∧ (n : Int) < 64 := by omega
          have b2 : (2:Int) ≤ n ∧ (n : Int) - 2 < 64 := by omega
          have t2 : ((n : Int) - 2).toNat = n - 2 := by omega
          have b7 : (7:Int) ≤ n ∧ (n : Int) - 7 < 64 := by omega
          have t7 : ((n : Int) - 7).toNat = n - 7 := by omega
          have b15 : (15:Int) ≤ n ∧ (n : Int) - 15 < 64 := by omega
          have t15 : ((n : Int) - 15).toNat = n - 15 := by omega
          have b16 : (16:Int) ≤ n ∧ (n : Int) - 16 < 64 := by omega
          have t16 : ((n : Int) - 16).toNat = n - 16 := by omega
          have w2 := wi64 (n - 2) (by omega) (by omega)
          have w7 := wi64 (n - 7) (by omega) (by omega)
          have w15 := wi64 (n - 15) (by omega) (by omega)
          have w16 := wi64 (n - 16) (by omega) (by omega)
          have Hn := hide hn
          clear hn hcell hget
          go_wp2
          refine wp_region_still_tail 23 mixed (by kernel_rfl) ?_
          simp only [List.take_succ_cons, List.take_zero, List.drop_succ_cons, List.drop_zero]
          iterate 5 still_step
          still_call (smallOne_calls _ _)
          iterate 9 still_step
          still_call (smallZero_calls _ _)
          iterate 7 still_step
          refine wpStill_nil ?_
          go_wp2
          go_roundw
          case rel =>
            have hn := unhide Hn
            have hx : schedNext (schedN s.data.toList k) = addw (addw (addw (pSmallOne x2) x7) (pSmallZero x15)) x16 := by
              unfold schedNext; rw [schedN_length, hn, unhide e2, unhide e7, unhide e15, unhide e16]
            refine ⟨k + 1, by omega, by rw [← hn]; go_num, ?_, ?_, ?_, ?_⟩
            · exact (hb.setCell (by simp) _).drew
            · simpa using hz
            · have e : List.replicate (48 - k) (0 : BitVec 32) = 0 :: List.replicate (48 - (k + 1)) 0 := by rw [show 48 - k = (48 - (k + 1)) + 1 by omega]; rfl
              rw [e] at hc
              rw [← hx]
              exact row_set wr _ _ _ _ _ _ _ 0 hc (by rw [schedN_length]; omega)
            · exact row_other wr _ _ 0 _ _ hr (by simp)
          case measure => simp [intOf]; omega
        · obtain rfl : k = 48 := by omega
          have hc' : wr.heap[w.heap.size + 1]? = some (.cells (wc (sched s.data.toList)) 122 (0, 0)) := by simpa [sched] using hc
          have hi : (Tryd.prog.info? 122).map (·.size) = some (wc (sched s.data.toList)).size := by rw [wc_size, sched_length]; kernel_rfl
          clear hc
          have hold : (wc (List.replicate 64 (0 : BitVec 32))).size = (wc (sched s.data.toList)).size := by simp [sched_length]
          go_wp2_with (first
            | (refine wpList_load_row rfl 122 (.tmp 3) rfl (w.heap.size + 1) rfl 122 _ (0, 0) _ hc' Tryd.underlying122 rfl hi ?_)
            | (refine wpList_store_row rfl 122 (.tmp 2) (.tmp 43) rfl w.heap.size _ rfl rfl 122 _ hr hi hold (wc_oneCell _) ?_))
          exact bodyPost_ret (results_cell_row rfl _ _ w.heap.size _ _ _ _ rfl (setRow_heap _ _ _ _ _ _ hr) Tryd.underlying122 rfl hi) rfl ⟨rfl, below_setRow hb (Nat.le_refl _) _⟩
end Go.Proofs.YtonmccmeljeopaaDoor

namespace Go.Proofs.YtonmccmeljeopaaDoor
open Go.RowKit
set_option linter.unusedSimpArgs false

/-- The standard's constants. -/
def kWords : List (BitVec 32) := [1116352408, 1899447441, 3049323471, 3921009573, 961987163, 1508970993, 2453635748, 2870763221, 3624381080, 310598401, 607225278, 1426881987, 1925078388, 2162078206, 2614888103, 3248222580, 3835390401, 4022224774, 264347078, 604807628, 770255983, 1249150122, 1555081692, 1996064986, 2554220882, 2821834349, 2952996808, 3210313671, 3336571891, 3584528711, 113926993, 338241895, 666307205, 773529912, 1294757372, 1396182291, 1695183700, 1986661051, 2177026350, 2456956037, 2730485921, 2820302411, 3259730800, 3345764771, 3516065817, 3600352804, 4094571909, 275423344, 430227734, 506948616, 659060556, 883997877, 958139571, 1322822218, 1537002063, 1747873779, 1955562222, 2024104815, 2227730452, 2361852424, 2428436474, 2756734187, 3204031479, 3329325298]
/-- The first state. -/
def hWords : List (BitVec 32) := [1779033703, 3144134277, 1013904242, 2773480762, 1359893119, 2600822924, 528734635, 1541459225]

/-- Eight words. -/
structure S8 where
  (a b c d e f g h : BitVec 32)
def S8.list (s : S8) : List (BitVec 32) := [s.a, s.b, s.c, s.d, s.e, s.f, s.g, s.h]
def S8.cells (s : S8) : Array Value := wc s.list
def pOne (k w : BitVec 32) (s : S8) : BitVec 32 := addw (addw (addw (addw s.h (pBigOne s.e)) (pChoice s.e s.f s.g)) k) w
def pTwo (s : S8) : BitVec 32 := addw (pBigZero s.a) (pMajority s.a s.b s.c)
def pRound (k w : BitVec 32) (s : S8) : S8 := ⟨addw (pOne k w s) (pTwo s), s.a, s.b, s.c, addw s.d (pOne k w s), s.e, s.f, s.g⟩
def pRounds (ws : List (BitVec 32)) (s : S8) : Nat → S8
  | 0 => s
  | k + 1 => pRound (kWords.getD k 0) (ws.getD k 0) (pRounds ws s k)
def S8.add (s t : S8) : S8 := ⟨addw s.a t.a, addw s.b t.b, addw s.c t.c, addw s.d t.d, addw s.e t.e, addw s.f t.f, addw s.g t.g, addw s.h t.h⟩
/-- The words behind a block of 64 bytes; of another length as they are. -/
def pBlock (s : S8) (l : List UInt8) : S8 := if l.length = 64 then s.add (pRounds (sched l) s 64) else s
theorem S8.list_length (s : S8) : s.list.length = 8 := rfl
theorem S8.ext' {s t : S8} (h : s.list = t.list) : s = t := by
  cases s; cases t; simp_all [S8.list]
theorem S8.add_list (s t : S8) : (s.add t).list = List.zipWith addw s.list t.list := rfl
/-- Words of which the first k have been added to. -/
def addTo (x y : List (BitVec 32)) (k : Nat) : List (BitVec 32) := (List.zipWith addw x y).take k ++ x.drop k
theorem addTo_zero (x y : List (BitVec 32)) : addTo x y 0 = x := by simp [addTo]
theorem addTo_all (x y : List (BitVec 32)) (k : Nat) (h : k = x.length) (h' : y.length = x.length) : addTo x y k = List.zipWith addw x y := by
  subst h; simp [addTo]; exact List.take_of_length_le (by simp [h'])
theorem addTo_length (x y : List (BitVec 32)) (k : Nat) (h : k ≤ x.length) (h' : y.length = x.length) : (addTo x y k).length = x.length := by
  simp [addTo, h']; omega
theorem addTo_get (x y : List (BitVec 32)) (k : Nat) (h : k < x.length) (h' : y.length = x.length) : (addTo x y k).getD k 0 = x.getD k 0 := by
  have hl : ((List.zipWith addw x y).take k).length = k := by simp [h']; omega
  rw [addTo, List.getD_eq_getElem?_getD, List.getElem?_append_right (by omega), hl, List.getElem?_drop, List.getD_eq_getElem?_getD]
  simp
theorem addTo_set (x y : List (BitVec 32)) (k : Nat) (h : k < x.length) (h' : y.length = x.length) :
    (wc (addTo x y k)).setIfInBounds k (.int .u32 ((addw (x.getD k 0) (y.getD k 0)).toNat : Int)) = wc (addTo x y (k + 1)) := by
  have hl : ((List.zipWith addw x y).take k).length = k := by simp [h']; omega
  have hd : x.drop k = x.getD k 0 :: x.drop (k + 1) := by
    rw [List.drop_eq_getElem_cons h, List.getD_eq_getElem?_getD]; simp [h]
  have ht : (List.zipWith addw x y).take (k + 1) = (List.zipWith addw x y).take k ++ [addw (x.getD k 0) (y.getD k 0)] := by
    rw [List.take_succ_eq_append_getElem (by simp [h']; omega)]
    simp [h, show k < y.length by omega]
  unfold addTo
  rw [hd, wc_set _ _ _ _ _ hl.symm, ht]

end Go.Proofs.YtonmccmeljeopaaDoor

namespace Go.Proofs.YtonmccmeljeopaaDoor
open Go.RowKit
set_option linter.unusedSimpArgs false
set_option linter.unusedVariables false

/-- The two tables of package sha lie in memory as its text lays them. -/
structure Tabs (w : World) : Prop where
  size : 0 < w.heap.size ∧ 1 < w.heap.size
  k : ∀ j, j < 64 → w.cell? ⟨1, j, none⟩ = some (.int .u32 ((kWords.getD j 0).toNat : Int))
  h : ∀ j, j < 8 → w.cell? ⟨0, j, none⟩ = some (.int .u32 ((hWords.getD j 0).toNat : Int))
theorem Tabs.below {B : Nat} {w w' : World} (t : Tabs w) (hb : Below B w w') (hB : w.heap.size ≤ B) : Tabs w' := by
  obtain ⟨s, k, h⟩ := t
  refine ⟨⟨Nat.lt_of_lt_of_le s.1 hb.size, Nat.lt_of_lt_of_le s.2 hb.size⟩, fun j hj => ?_, fun j hj => ?_⟩
  · rw [hb.cell (by show 1 < B; omega)]; exact k j hj
  · rw [hb.cell (by show 0 < B; omega)]; exact h j hj

theorem u8w : (Tryd.prog.info? 81).map (·.size) = some 1 := by kernel_rfl
theorem keyw : Tryd.prog.plainKey 81 = true := by kernel_rfl
theorem index64 (ws : List (BitVec 32)) (h : ws.length = 64) (k : Nat) (hk : k < 64) (w : World) : (Instr.index 122 (.agg (wc ws)) (.int .i64 (k : Int))).run Tryd.prog w = .ok (.int .u32 ((ws.getD k 0).toNat : Int)) w :=
  run_index_row 122 81 64 _ k _ Tryd.underlying122 keyw u8w hk (wc_at ws k (by omega)) w
theorem index8 (ws : List (BitVec 32)) (h : ws.length = 8) (k : Nat) (hk : k < 8) (w : World) : (Instr.index 100 (.agg (wc ws)) (.int .i64 (k : Int))).run Tryd.prog w = .ok (.int .u32 ((ws.getD k 0).toNat : Int)) w :=
  run_index_row 100 81 8 _ k _ Tryd.underlying100 keyw u8w hk (wc_at ws k (by omega)) w

set_option maxHeartbeats 400000 in
set_option maxRecDepth 100000 in
theorem block_other (st : S8) (s : ByteArray) (hs : s.size ≠ 64) (hm : s.size ≤ maxLen) (w : World) :
    Calls Tryd.prog 71 #[.agg st.cells, .string s] w fun e w' => e = .returned (.agg st.cells) ∧ Below w.heap.size w w' := by
  have hne : ((s.size : Int) != 64) = true := by simp; omega
  obtain ⟨a, b, c, d, e, f, g, h⟩ := st
  simp only [S8.cells, S8.list, wc, List.map]
  go_enter Tryd.func71, Tryd.ntmps71
  go_wp2
  exact bodyPost_ret (results_cell_row rfl _ _ (w.heap.size + 1) _ _ _ _ rfl (heap_alloc2_new _ _ _) Tryd.underlying100 rfl (by kernel_rfl)) rfl ⟨rfl, ((Below.refl _ _).alloc (Nat.le_refl _) _).alloc (by simp) _⟩

set_option maxHeartbeats 400000 in
set_option maxRecDepth 100000 in
theorem block_calls (st : S8) (s : ByteArray) (hs : s.size = 64) (w : World) (tabs : Tabs w) :
    Calls Tryd.prog 71 #[.agg st.cells, .string s] w fun e w' => e = .returned (.agg (pBlock st s.data.toList).cells) ∧ Below w.heap.size w w' := by
  have hne : ((s.size : Int) != 64) = false := by simp; omega
  obtain ⟨a, b, c, d, e, f, g, h⟩ := st
  simp only [S8.cells, S8.list, wc, List.map]
  go_enter Tryd.func71, Tryd.ntmps71
  go_wp2_with (go_at_call 73; refine (schedule_calls s hs _).mono ?_; rintro e w1 ⟨rfl, hb1⟩)
  have hB : w.heap.size + 1 + 1 + 1 ≤ w1.heap.size := by have := hb1.size; simpa using this
  have q0 : w1.heap[w.heap.size]? = some (.cells (wc [a, b, c, d, e, f, g, h]) 100 (0, 0)) := Below.at hb1 (by simp; omega) (al3 _ _ _ _).1
  have q1 : w1.heap[w.heap.size + 1]? = some (.cells (wc (List.replicate 8 0)) 100 (0, 0)) := Below.at hb1 (by simp) (al3 _ _ _ _).2.1
  have q2 : w1.heap[w.heap.size + 1 + 1]? = some (.cells (pRounds (sched s.data.toList) ⟨a, b, c, d, e, f, g, h⟩ 0).cells 100 (0, 0)) := Below.at hb1 (by simp) (al3 _ _ _ _).2.2
  have hb : Below w.heap.size w w1 := (bel3 _ _ _ _).trans (hb1.mono (by simp; omega))
  clear hb1
  generalize hst : S8.mk a b c d e f g h = st at q2
  have Hst := hide hst
  clear hst
  go_loopw [19] (fun i wr => ∃ k : Nat, k ≤ 64 ∧ i = .int .i64 k ∧ Below w.heap.size w wr ∧ w.heap.size + 1 + 1 + 1 ≤ wr.heap.size ∧ wr.heap[w.heap.size]? = some (.cells (wc [a, b, c, d, e, f, g, h]) 100 (0, 0)) ∧ wr.heap[w.heap.size + 1]? = some (.cells (wc (List.replicate 8 0)) 100 (0, 0)) ∧ wr.heap[w.heap.size + 1 + 1]? = some (.cells (pRounds (sched s.data.toList) st k).cells 100 (0, 0))) (fun i _ => 64 - (intOf i).toNat)
  case atStart => exact ⟨0, by omega, rfl, hb, hB, q0, q1, q2⟩
  case round =>
    clear hb hB q0 q1 q2
    obtain ⟨k, hk, rfl, hb, hB, q0, q1, q2⟩ := hrel
    by_cases hlt : k < 64
    · have tb := tabs.below hb (Nat.le_refl _)
      have hidx := index64 (sched s.data.toList) (sched_length _) k hlt
      generalize hr : pRounds (sched s.data.toList) st k = r at q2
      have Hr := hide hr
      clear hr
      obtain ⟨r0, r1, r2, r3, r4, r5, r6, r7⟩ := r
      have c0 : wr.cell? ⟨w.heap.size + 1 + 1, 0, none⟩ = some (.int .u32 (r0.toNat : Int)) := cell_of_row _ _ _ _ _ _ q2
      have c1 : wr.cell? ⟨w.heap.size + 1 + 1, 1, none⟩ = some (.int .u32 (r1.toNat : Int)) := cell_of_row _ _ _ _ _ _ q2
      have c2 : wr.cell? ⟨w.heap.size + 1 + 1, 2, none⟩ = some (.int .u32 (r2.toNat : Int)) := cell_of_row _ _ _ _ _ _ q2
      have c4 : wr.cell? ⟨w.heap.size + 1 + 1, 4, none⟩ = some (.int .u32 (r4.toNat : Int)) := cell_of_row _ _ _ _ _ _ q2
      have c5 : wr.cell? ⟨w.heap.size + 1 + 1, 5, none⟩ = some (.int .u32 (r5.toNat : Int)) := cell_of_row _ _ _ _ _ _ q2
      have c6 : wr.cell? ⟨w.heap.size + 1 + 1, 6, none⟩ = some (.int .u32 (r6.toNat : Int)) := cell_of_row _ _ _ _ _ _ q2
      have c7 : wr.cell? ⟨w.heap.size + 1 + 1, 7, none⟩ = some (.int .u32 (r7.toNat : Int)) := cell_of_row _ _ _ _ _ _ q2
      obtain ⟨xk, ek, ck⟩ : ∃ x : BitVec 32, Hid (kWords.getD k 0 = x) ∧ wr.cell? ⟨1, k, none⟩ = some (.int .u32 (x.toNat : Int)) := ⟨_, rfl, tb.k k hlt⟩
      obtain ⟨xw, ew, cw⟩ : ∃ x : BitVec 32, Hid ((sched s.data.toList).getD k 0 = x) ∧ ∀ w, (Instr.index 122 (.agg (wc (sched s.data.toList))) (.int .i64 (k : Int))).run Tryd.prog w = .ok (.int .u32 (x.toNat : Int)) w := ⟨_, rfl, hidx⟩
      clear hidx tb
      have bk : (0:Int) ≤ k ∧ (k : Int) < 64 := by omega
      have am := a_mod
      have aw := a_wrap
      go_wp2
      go_quiet ((first | (go_at_call 74; exact Calls.quiet_of_same (bigOne_calls _ _)) | (go_at_call 75; exact Calls.quiet_of_same (choice_calls _ _ _ _))))
      go_wp2
      generalize hw2 : wr.drewN nq = w2
      have hc2 : ∀ p, w2.cell? p = wr.cell? p := fun p => by rw [← hw2]; rfl
      have Hw2 := hide hw2
      clear hw2
      go_quiet ((first | (go_at_call 76; exact Calls.quiet_of_same (bigZero_calls _ _)) | (go_at_call 77; exact Calls.quiet_of_same (majority_calls _ _ _ _))))
      go_wp2
      have q3 : (w2.drewN nq).heap[w.heap.size + 1 + 1]? = some (.cells (wc [r0, r1, r2, r3, r4, r5, r6, r7]) 100 (0, 0)) := by rw [World.heap_drewN, ← unhide Hw2]; exact q2
      have q4 : ∀ k : Nat, (w2.drewN nq).heap[k]? = wr.heap[k]? := by intro k; rw [World.heap_drewN, ← unhide Hw2]; rfl
      have q5 : Below wr.heap.size wr (w2.drewN nq) := by rw [← unhide Hw2]; exact below_drewN (below_drewN (Below.refl _ _) _) _
      generalize w2.drewN nq = w3 at *
      clear hc2 Hw2
      refine wp_region_still_tail 2 mixed (by kernel_rfl) ?_
      simp only [List.take_succ_cons, List.take_zero, List.drop_succ_cons, List.drop_zero]
      iterate 2 still_step
      refine wpStill_nil ?_
      refine wpList_copy_abs (w := w3.drew) rfl (.tmp 54) (.tmp 55) 129 129 rfl 81 Tryd.underlying129 u8w (w.heap.size + 1 + 1) 1 7 7 ⟨w.heap.size + 1 + 1, 0, none⟩ 7 8 rfl rfl _ _ q3 (wc [r0, r1, r2, r3, r4, r5, r6]).toList rfl (src_of_row _ _ _ _ _ q3 _ ⟨(wc [r7]).toList, rfl⟩) (by simp) ?one (wc [r0, r0, r1, r2, r3, r4, r5, r6]) rfl ?_
      case one => intro v hv; exact List.all_eq_true.1 (by simpa using wc_oneCell [r0, r1, r2, r3, r4, r5, r6]) v hv
      intro w4 p4 k4 s4 b4
      have d3 : w4.cell? ⟨w.heap.size + 1 + 1, 4, none⟩ = some (.int .u32 (r3.toNat : Int)) := cell_of_row _ _ _ _ _ _ p4
      have d0 : w4.cell? ⟨w.heap.size + 1 + 1, 0, none⟩ = some (.int .u32 (r0.toNat : Int)) := cell_of_row _ _ _ _ _ _ p4
      have f0 : w4.frozen? ⟨w.heap.size + 1 + 1, 0, none⟩ = false := frozen_of_row _ _ _ _ _ p4
      have f4 : w4.frozen? ⟨w.heap.size + 1 + 1, 4, none⟩ = false := frozen_of_row _ _ _ _ _ p4
      have K4 := hide k4
      have P4 := hide p4
      have Q4 := hide q4
      clear k4 p4 q4 q3 c0 c1 c2 c4 c5 c6 c7 cw ck
      go_wp2
      go_roundw
      case rel =>
        have e4 : (w3.drew).heap.size = w3.heap.size := rfl
        have z5 := q5.size
        refine ⟨k + 1, by omega, by go_num, ?_, ?_, ?_, ?_, ?_⟩
        · exact ((((hb.trans (q5.mono (by omega))).drew).trans (b4.mono (by omega))).setCell (by simp; omega) _).setCell (by simp; omega) _
        · simp only [World.size_setCell]; omega
        · rw [heap_setCell_other _ _ _ _ (by simp; omega), heap_setCell_other _ _ _ _ (by simp; omega), unhide K4 _ (by omega)]; exact (unhide Q4 _).trans q0
        · rw [heap_setCell_other _ _ _ _ (by simp), heap_setCell_other _ _ _ _ (by simp), unhide K4 _ (by omega)]; exact (unhide Q4 _).trans q1
        · rw [heap_setCell_same _ _ _ _ _ _ (heap_setCell_same _ _ _ _ _ _ (unhide P4))]
          have er : pRounds (sched s.data.toList) st (k + 1) = pRound xk xw ⟨r0, r1, r2, r3, r4, r5, r6, r7⟩ := by
            show pRound _ _ (pRounds _ _ k) = _
            rw [unhide Hr, unhide ek, unhide ew]
          rw [er]; rfl
      case measure => simp [intOf]; omega
    · have q2' : wr.heap[w.heap.size + 1 + 1]? = some (.cells (pRounds (sched s.data.toList) st 64).cells 100 (0, 0)) := by rw [q2, show k = 64 by omega]
      clear q2
      generalize hr : pRounds (sched s.data.toList) st 64 = r at q2'
      have Hr := hide hr
      clear hr
      have hir : (Tryd.prog.info? 100).map (·.size) = some r.cells.size := by show _ = some 8; kernel_rfl
      have hd : decide ((k : Int) < 64) = false := by simp; omega
      go_wp2_with (refine wpList_load_row rfl 100 (.tmp 5) rfl (w.heap.size + 1 + 1) rfl 100 _ (0, 0) _ q2' Tryd.underlying100 rfl hir ?_)
      generalize hx : [a, b, c, d, e, f, g, h] = xs at *
      have hxl : xs.length = 8 := by rw [← hx]; rfl
      have Hx := hide hx
      clear hx
      go_loopw [68] (fun i wr => ∃ j : Nat, j ≤ 8 ∧ i = .int .i64 j ∧ Below w.heap.size w wr ∧ wr.heap[w.heap.size]? = some (.cells (wc (addTo xs r.list j)) 100 (0, 0)) ∧ wr.heap[w.heap.size + 1]? = some (.cells (wc (List.replicate 8 0)) 100 (0, 0))) (fun i _ => 8 - (intOf i).toNat)
      case atStart => exact ⟨0, by omega, rfl, hb, by rw [addTo_zero]; exact q0, q1⟩
      case round =>
        clear hb hB q0 q1 q2' hir
        obtain ⟨j, hj, rfl, hb, q0, q1⟩ := hrel
        by_cases hlt : j < 8
        · have c0 : wr.cell? ⟨w.heap.size, j, none⟩ = some (.int .u32 ((xs.getD j 0).toNat : Int)) := by
            rw [cell_of_row _ _ _ _ _ _ q0, wc_at _ _ (by rw [addTo_length _ _ _ (by omega) (by rw [hxl]; rfl)]; omega), addTo_get _ _ _ (by omega) (by rw [hxl]; rfl)]
          have f0 : wr.frozen? ⟨w.heap.size, j, none⟩ = false := frozen_of_row _ _ _ _ _ q0
          have hidx : ∀ w, (Instr.index 100 (.agg r.cells) (.int .i64 (j : Int))).run Tryd.prog w = .ok (.int .u32 ((r.list.getD j 0).toNat : Int)) w := index8 r.list rfl j hlt
          generalize hy : r.list.getD j 0 = y at hidx
          generalize hx : xs.getD j 0 = x at c0
          have Hy := hide hy
          have Hxx := hide hx
          clear hx hy
          have bj : (0:Int) ≤ j ∧ (j : Int) < 8 := by omega
          have am := a_mod
          have aw := a_wrap
          go_wp2
          go_roundw
          case rel =>
            refine ⟨j + 1, by omega, by go_num, ?_, ?_, ?_⟩
            · exact hb.setCell (by simp) _
            · rw [heap_setCell_same _ _ _ _ _ _ q0, ← addTo_set _ _ _ (by omega) (by rw [hxl]; rfl), unhide Hy, unhide Hxx]
            · rw [heap_setCell_other _ _ _ _ (by simp)]; exact q1
          case measure => simp [intOf]; omega
        · have q0' : wr.heap[w.heap.size]? = some (.cells (pBlock st s.data.toList).cells 100 (0, 0)) := by
            have e1 : (pBlock st s.data.toList).list = addTo xs r.list 8 := by
              have hl : s.data.toList.length = 64 := by simpa using hs
              rw [pBlock, if_pos hl, S8.add_list, unhide Hr, addTo_all _ _ _ hxl.symm (by rw [hxl]; rfl), ← unhide Hx, ← unhide Hst]; rfl
            rw [q0, show j = 8 by omega, ← e1]; rfl
          have hib : (Tryd.prog.info? 100).map (·.size) = some (pBlock st s.data.toList).cells.size := by show _ = some 8; kernel_rfl
          have ho1 : (pBlock st s.data.toList).cells.all (·.oneCell') = true := wc_oneCell _
          generalize hpb : pBlock st s.data.toList = pb at q0' hib ho1
          have Hpb := hide hpb
          clear hpb q0
          have hd : decide ((j : Int) < 8) = false := by simp; omega
          go_wp2_with (first
            | (refine wpList_load_row rfl 100 (.tmp 2) rfl w.heap.size rfl 100 _ (0, 0) _ q0' Tryd.underlying100 rfl hib ?_)
            | (refine wpList_store_row rfl 100 (.tmp 4) (.tmp 79) rfl (w.heap.size + 1) _ rfl rfl 100 _ q1 hib rfl ho1 ?_))
          exact bodyPost_ret (results_cell_row rfl _ _ (w.heap.size + 1) _ _ _ _ rfl (setRow_heap _ _ _ _ _ _ q1) Tryd.underlying100 rfl hib) rfl ⟨by rw [← unhide Hpb, ← unhide Hst]; rfl, below_setRow hb (by simp) _⟩
end Go.Proofs.YtonmccmeljeopaaDoor

namespace Go.Proofs.YtonmccmeljeopaaDoor
open Go.RowKit
set_option linter.unusedSimpArgs false

/-- The words behind n whole blocks at most, and what is left. -/
def pThroughN : Nat → S8 → List UInt8 → S8 × List UInt8
  | 0, s, l => (s, l)
  | n + 1, s, l => if 64 ≤ l.length then pThroughN n (pBlock s (l.take 64)) (l.drop 64) else (s, l)
def pThrough (s : S8) (l : List UInt8) : S8 × List UInt8 := pThroughN (l.length / 64) s l
theorem pThrough_step (s : S8) (l : List UInt8) (h : 64 ≤ l.length) : pThrough s l = pThrough (pBlock s (l.take 64)) (l.drop 64) := by
  unfold pThrough
  rw [show l.length / 64 = (l.drop 64).length / 64 + 1 by simp; omega]
  simp [pThroughN, h]
theorem pThrough_end (s : S8) (l : List UInt8) (h : l.length < 64) : pThrough s l = (s, l) := by
  unfold pThrough
  rw [Nat.div_eq_of_lt h]; rfl

/-- A sum of two words of 64 bits, under a name of its own. -/
def add64 (x y : BitVec 64) : BitVec 64 := x + y
theorem a64_wrap (x y : BitVec 64) : IntKind.u64.wrap ((x.toNat : Int) + (y.toNat : Int)) = ((add64 x y).toNat : Int) := by
  rw [IntKind.wrap_u64, add64, BitVec.toNat_add]; omega
/-- A state: words, rest, count. -/
structure St where
  (s : S8) (rest : List UInt8) (count : BitVec 64)
def St.cells (t : St) : Array Value := #[.int .u32 (t.s.a.toNat : Int), .int .u32 (t.s.b.toNat : Int), .int .u32 (t.s.c.toNat : Int), .int .u32 (t.s.d.toNat : Int), .int .u32 (t.s.e.toNat : Int), .int .u32 (t.s.f.toNat : Int), .int .u32 (t.s.g.toNat : Int), .int .u32 (t.s.h.toNat : Int), .string (str t.rest), .int .u64 (t.count.toNat : Int)]
theorem St.oneCell (t : St) : t.cells.all (·.oneCell') = true := by simp [St.cells, Value.oneCell']
def pBegin : St := ⟨⟨1779033703, 3144134277, 1013904242, 2773480762, 1359893119, 2600822924, 528734635, 1541459225⟩, [], 0⟩
/-- The state behind a text. -/
def pAdd (t : St) (l : List UInt8) : St := ⟨(pThrough t.s (t.rest ++ l)).1, (pThrough t.s (t.rest ++ l)).2, add64 t.count (BitVec.ofNat 64 l.length)⟩

end Go.Proofs.YtonmccmeljeopaaDoor

namespace Go.Proofs.YtonmccmeljeopaaDoor
open Go.RowKit
set_option linter.unusedSimpArgs false
set_option linter.unusedVariables false

set_option maxHeartbeats 400000 in
set_option maxRecDepth 100000 in
theorem through_calls (st : S8) (l : List UInt8) (hl : l.length ≤ maxLen) (w : World) (tabs : Tabs w) :
    Calls Tryd.prog 66 #[.agg st.cells, .string (str l)] w fun e w' => e = .returned (.tuple #[.agg (pThrough st l).1.cells, .string (str (pThrough st l).2)]) ∧ Below w.heap.size w w' := by
  obtain ⟨a, b, c, d, e, f, g, h⟩ := st
  unfold maxLen at hl
  generalize hT : pThrough ⟨a, b, c, d, e, f, g, h⟩ l = T
  simp only [S8.cells, S8.list, wc, List.map]
  have HT := hide hT
  clear hT
  go_enter Tryd.func66, Tryd.ntmps66
  go_wp2
  go_loopw [1] (fun t wr => ∃ (m : List UInt8) (s : S8), t = .string (str m) ∧ m.length ≤ l.length ∧ Hid (pThrough s m = T) ∧ Below w.heap.size w wr ∧ w.heap.size + 1 + 1 ≤ wr.heap.size ∧ wr.heap[w.heap.size]? = some (.cells s.cells 100 (0, 0)) ∧ wr.heap[w.heap.size + 1]? = some (.cells (wc (List.replicate 8 0)) 100 (0, 0))) (fun t _ => match t with | .string s => s.size | _ => 0)
  case atStart => exact ⟨l, ⟨a, b, c, d, e, f, g, h⟩, rfl, Nat.le_refl _, HT, bel2 _ _ _, by simp, (al2 _ _ _).1, (al2 _ _ _).2⟩
  case round =>
    obtain ⟨m, s, rfl, hm, hS, hb, hB, q0, q1⟩ := hrel
    by_cases hlt : 64 ≤ m.length
    · have hge : decide ((64 : Int) ≤ ((m.length : Nat) : Int)) = true := by simp; omega
      obtain ⟨s0, s1, s2, s3, s4, s5, s6, s7⟩ := s
      have c0 : wr.cell? ⟨w.heap.size, 0, none⟩ = some (.int .u32 (s0.toNat : Int)) := cell_of_row _ _ _ _ _ _ q0
      have c1 : wr.cell? ⟨w.heap.size, 1, none⟩ = some (.int .u32 (s1.toNat : Int)) := cell_of_row _ _ _ _ _ _ q0
      have c2 : wr.cell? ⟨w.heap.size, 2, none⟩ = some (.int .u32 (s2.toNat : Int)) := cell_of_row _ _ _ _ _ _ q0
      have c3 : wr.cell? ⟨w.heap.size, 3, none⟩ = some (.int .u32 (s3.toNat : Int)) := cell_of_row _ _ _ _ _ _ q0
      have c4 : wr.cell? ⟨w.heap.size, 4, none⟩ = some (.int .u32 (s4.toNat : Int)) := cell_of_row _ _ _ _ _ _ q0
      have c5 : wr.cell? ⟨w.heap.size, 5, none⟩ = some (.int .u32 (s5.toNat : Int)) := cell_of_row _ _ _ _ _ _ q0
      have c6 : wr.cell? ⟨w.heap.size, 6, none⟩ = some (.int .u32 (s6.toNat : Int)) := cell_of_row _ _ _ _ _ _ q0
      have c7 : wr.cell? ⟨w.heap.size, 7, none⟩ = some (.int .u32 (s7.toNat : Int)) := cell_of_row _ _ _ _ _ _ q0
      have b64 : (64 : Int) ≤ (m.length : Int) := by omega
      have es := take_str m 64
      have ed := drop_str m 64 _ rfl
      go_wp2
      refine wp_region_still_tail 3 mixed (by kernel_rfl) ?_
      simp only [List.take_succ_cons, List.take_zero, List.drop_succ_cons, List.drop_zero]
      iterate 3 still_step
      refine wpStill_nil ?_
      have hsz : (str (m.take 64)).size = 64 := by simp; omega
      have tb : Tabs wr.drew := tabs.below hb.drew (Nat.le_refl _)
      have q0d : wr.drew.heap[w.heap.size]? = some (.cells (S8.mk s0 s1 s2 s3 s4 s5 s6 s7).cells 100 (0, 0)) := q0
      show wpList _ _ _ _ _ wr.drew
      go_wp2_with fail
      refine (block_calls ⟨s0, s1, s2, s3, s4, s5, s6, s7⟩ _ hsz _ tb).mono ?_
      rintro e w1 ⟨rfl, hb1⟩
      have q0' : w1.heap[w.heap.size]? = some (.cells (S8.mk s0 s1 s2 s3 s4 s5 s6 s7).cells 100 (0, 0)) := Below.at hb1 (by show w.heap.size < wr.heap.size; omega) q0
      have q1' : w1.heap[w.heap.size + 1]? = some (.cells (wc (List.replicate 8 0)) 100 (0, 0)) := Below.at hb1 (by show w.heap.size + 1 < wr.heap.size; omega) q1
      generalize hpb : pBlock ⟨s0, s1, s2, s3, s4, s5, s6, s7⟩ (str (m.take 64)).data.toList = pb
      have hib : (Tryd.prog.info? 100).map (·.size) = some pb.cells.size := by show _ = some 8; kernel_rfl
      have ho1 : pb.cells.all (·.oneCell') = true := wc_oneCell _
      have Hpb := hide hpb
      clear hpb
      have z1 := hb1.size
      go_wp2_with (refine wpList_store_row rfl 100 (.tmp 2) (.tmp 12) rfl w.heap.size _ rfl rfl 100 _ q0' hib rfl ho1 ?_)
      go_roundw
      case rel =>
        refine ⟨m.drop 64, pb, rfl, by simp; omega, ?_, below_setRow ((hb.drew).trans (hb1.mono (by show w.heap.size ≤ wr.heap.size; omega))) (Nat.le_refl _) _, ?_, setRow_heap _ _ _ _ _ _ q0', ?_⟩
        · have h1 := unhide hS
          rw [pThrough_step _ _ hlt] at h1
          have h2 := unhide Hpb
          rw [str_toList] at h2
          rw [h2] at h1
          exact hide h1
        · rw [setRow_size]; have : wr.drew.heap.size = wr.heap.size := rfl; omega
        · rw [setRow_other _ _ _ _ (by omega)]; exact q1'
      case measure => simp; omega
    · have hge : decide ((64 : Int) ≤ ((m.length : Nat) : Int)) = false := by simp; omega
      have hi : (Tryd.prog.info? 100).map (·.size) = some s.cells.size := by show _ = some 8; kernel_rfl
      have ho1 : s.cells.all (·.oneCell') = true := wc_oneCell _
      rw [pThrough_end _ _ (by omega)] at hS
      go_wp2_with (first
        | (refine wpList_load_row rfl 100 (.tmp 2) rfl w.heap.size rfl 100 _ (0, 0) _ q0 Tryd.underlying100 rfl hi ?_)
        | (refine wpList_store_row rfl 100 (.tmp 4) (.tmp 15) rfl (w.heap.size + 1) _ rfl rfl 100 _ q1 hi rfl ho1 ?_))
      exact bodyPost_ret (results_row_tmp rfl _ _ (w.heap.size + 1) _ _ _ _ rfl (setRow_heap _ _ _ _ _ _ q1) Tryd.underlying100 rfl hi) rfl ⟨by rw [← unhide hS]; rfl, below_setRow hb (by simp) _⟩

/-- The same, the words written out. -/
theorem through_lit (a b c d e f g h : BitVec 32) (l : List UInt8) (hl : l.length ≤ maxLen) (w : World) (tabs : Tabs w) :
    Calls Tryd.prog 66 #[.agg #[.int .u32 (a.toNat : Int), .int .u32 (b.toNat : Int), .int .u32 (c.toNat : Int), .int .u32 (d.toNat : Int), .int .u32 (e.toNat : Int), .int .u32 (f.toNat : Int), .int .u32 (g.toNat : Int), .int .u32 (h.toNat : Int)], .string (str l)] w fun en w' =>
      ∃ (r0 r1 r2 r3 r4 r5 r6 r7 : BitVec 32) (m : List UInt8), en = .returned (.tuple #[.agg #[.int .u32 (r0.toNat : Int), .int .u32 (r1.toNat : Int), .int .u32 (r2.toNat : Int), .int .u32 (r3.toNat : Int), .int .u32 (r4.toNat : Int), .int .u32 (r5.toNat : Int), .int .u32 (r6.toNat : Int), .int .u32 (r7.toNat : Int)], .string (str m)]) ∧ Hid (pThrough ⟨a, b, c, d, e, f, g, h⟩ l = (⟨r0, r1, r2, r3, r4, r5, r6, r7⟩, m)) ∧ Below w.heap.size w w' := by
  refine (through_calls ⟨a, b, c, d, e, f, g, h⟩ l hl w tabs).mono ?_
  rintro en w' ⟨rfl, hb⟩
  generalize hT : pThrough ⟨a, b, c, d, e, f, g, h⟩ l = T
  obtain ⟨⟨r0, r1, r2, r3, r4, r5, r6, r7⟩, m⟩ := T
  exact ⟨r0, r1, r2, r3, r4, r5, r6, r7, m, rfl, rfl, hb⟩
theorem pThrough_rest_le (s : S8) (l : List UInt8) : (pThrough s l).2.length < 64 ∧ (pThrough s l).2.length ≤ l.length := by
  generalize hn : l.length = n
  induction n using Nat.strongRecOn generalizing s l with
  | _ n ih =>
    by_cases h : 64 ≤ l.length
    · rw [pThrough_step s l h]
      have := ih (l.drop 64).length (by simp; omega) (pBlock s (l.take 64)) (l.drop 64) rfl
      simp at this; omega
    · rw [pThrough_end s l (by omega)]; simp; omega
end Go.Proofs.YtonmccmeljeopaaDoor

namespace Go.Proofs.YtonmccmeljeopaaDoor
open Go Go.RowKit
section
variable {P : Program} {ops : Array Oper} {md : Region.Mode} {C : World → Prop}

/-- Whatever order is picked, for so many steps: each step is one of the first n, and quiet; then L. -/
def headQ (P : Program) (md : Region.Mode) (ops : Array Oper) (C : World → Prop) (n : Nat) (L : Array Bool → Act → Prop) : Nat → Array Bool → Act → Prop
  | 0, listed, a => L listed a
  | f + 1, listed, a => Region.ready md ops listed ≠ [] ∧ ∀ i ∈ Region.ready md ops listed, i < n ∧ qOp P ops C i (headQ P md ops C n L f (listed.setIfInBounds i true)) a

theorem any_of_headQ {n g : Nat} {L : Array Bool → Act → Prop} {Q : Exit → Act → World → Prop} (hL : ∀ listed a w, C w → L listed a → wpAny P md ops Q g listed a w) (f : Nat) :
    ∀ (listed : Array Bool) (a : Act) (w : World), C w → headQ P md ops C n L f listed a → wpAny P md ops Q (f + g) listed a w := by
  induction f with
  | zero => intro listed a w hw h; rw [Nat.zero_add]; exact hL _ _ _ hw h
  | succ f ih =>
    intro listed a w hw h
    rw [show f + 1 + g = (f + g) + 1 by omega]
    exact ⟨fun h0 => absurd h0 h.1, fun i hi => wpOp_of_qOp hw (fun a' w' hw' h' => ih _ a' w' hw' h') (h.2 i hi).2⟩

/-- One that may come up, yields its value in every world of the class, and is apart from all that does not wait for it, may be taken first. -/
theorem headQ_first {n i : Nat} {oi : Oper} {v : Value} {L : Array Bool → Act → Prop} (hi : ops[i]? = some oi) (hsel : ∀ (j : Nat) (o : Oper) cs b, ops[j]? = some o → o.op ≠ .select cs b)
    (hs : Region.sinkB md ops n = true) (hc : Region.chainB md ops n = true) (hn : n < ops.size) (hin : i < n)
    (hend : ∀ listed a, L listed a → ∀ j ∈ Region.ready md ops listed, n ≤ j) (f : Nat) :
    ∀ (listed : Array Bool) (a : Act), HeadInv md ops n listed →
      (∀ j oj, ops[j]? = some oj → j ≠ i → listed.getD j true = false → (∀ e ∈ oj.after, Region.binds md e = true → e.on ≠ i) → oi.apart ops oj = true) →
      i ∈ Region.ready md ops listed → YieldsIn P ops C oi v a →
      headQ P md ops C n L f (listed.setIfInBounds i true) (a.put oi.dst v) → headQ P md ops C n L (f + 1) listed a := by
  induction f with
  | zero =>
    intro listed a inv _ hr hy H
    refine ⟨fun h => (by rw [h] at hr; cases hr), fun j hj => ?_⟩
    have hjn : j < n := Nat.lt_of_not_le fun h => tail_waits hs hc hn inv _ i rfl hin (mem_ready.1 hr).1 j h hj
    refine ⟨hjn, ?_⟩
    by_cases e : j = i
    · subst e; exact hy.qOp hi H
    · exact absurd (hend _ _ H j (ready_mono hj e)) (by omega)
  | succ f ih =>
    intro listed a inv apart hr hy H
    refine ⟨fun h => (by rw [h] at hr; cases hr), fun j hj => ?_⟩
    have hjn : j < n := Nat.lt_of_not_le fun h => tail_waits hs hc hn inv _ i rfl hin (mem_ready.1 hr).1 j h hj
    refine ⟨hjn, ?_⟩
    by_cases e : j = i
    · subst e; exact hy.qOp hi H
    · obtain ⟨hun, oj, hoj, hall⟩ := mem_ready.1 hj
      have free : ∀ e ∈ oj.after, Region.binds md e = true → e.on ≠ i := fun e he hb heq => by
        have h1 := hall e he hb
        rw [heq, getD_both (mem_ready.1 hr).1] at h1
        cases h1
      have step := qOp_put hoj (apart j oj hoj e hun free) (fun cs b => hsel i oi cs b hi) (fun cs b => hsel j oj cs b hoj) hy (H.2 j (ready_mono hj e)).2
      refine qOp_mono (fun a' h3 => ih (listed.setIfInBounds j true) a' (inv.set hj hjn) (fun k ok hk hki hk2 hno => apart k ok hk hki ?_ hno) (ready_mono hr (Ne.symm e)) h3.1 ?_) step
      · by_cases hjk : j = k
        · subst hjk; exact hun
        · rw [getD_set_ne true hjk] at hk2; exact hk2
      · rw [Array.setIfInBounds_comm _ _ e]; exact h3.2

/-- The text's order serves every order. -/
theorem headQ_lex {n g : Nat} {R : Act → Prop} (hsel : Region.noSelect ops = true) (hs : Region.sinkB md ops n = true) (hc : Region.chainB md ops n = true) (hn : n < ops.size) :
    ∀ (l : List Oper) (k : Nat) (listed : Array Bool) (a : Act), (∀ j, j < l.length → l[j]? = ops[k + j]?) → k + l.length = n → HeadInv md ops n listed →
    Region.lexHead md ops g l.length k listed = true → wpQuiet P ops C R l a →
    headQ P md ops C n (fun listed' a' => Region.seqB md ops g n listed' = true ∧ R a') l.length listed a
  | [], k, listed, a, _, hk, _, hB, h => by
    obtain rfl : k = n := by simpa using hk
    exact ⟨by simpa [Region.lexHead] using hB, h⟩
  | o :: l, k, listed, a, hl, hk, inv, hB, h => by
    have h0 : ops[k]? = some o := by simpa using (hl 0 (by simp)).symm
    simp only [List.length_cons, Region.lexHead, Bool.and_eq_true] at hB
    obtain ⟨⟨hr, hf⟩, hB'⟩ := hB
    have hkn : k < n := by simp only [List.length_cons] at hk; omega
    have hr' : k ∈ Region.ready md ops listed := by simpa using hr
    obtain ⟨v, hy, hK⟩ := yieldsIn_of_qOp (C := C) (K := wpQuiet P ops C R l) h0 (by unfold qOp; simp only [h0]; exact h)
    refine headQ_first h0 (Region.noSelect_spec hsel) hs hc hn hkn (fun _ _ hL => seqB_ready hL.1) l.length listed a inv (Region.free_spec h0 hf) hr' hy ?_
    exact headQ_lex hsel hs hc hn l (k + 1) _ _ (fun j hj => by have := hl (j + 1) (by simp; omega); simpa [Nat.add_assoc, Nat.add_comm 1 j] using this) (by simp only [List.length_cons] at hk; omega) (inv.set hr' hkn) hB' hK

/-- A REGION THAT DRAWS: the first n operations quiet in a class of worlds, walked in the text's order; what is left in its forced order, from whatever world of the class. -/
theorem wp_region_quiet_tail {id : Nat} {Q : Exit → Act → World → Prop} {a : Act} {w : World} {l : List Oper} (n : Nat) (hm : P.follows .mixedOrders = true) (hB : Region.lexTailB .any l.toArray n = true)
    (hC : C { w with drawn := w.drawn + 1 }) (h : wpQuiet P l.toArray C (fun a' => ∀ w', C w' → wpList P l.toArray Q (l.drop n) a' w') (l.take n) a) : (Code.region id l.toArray true).wp P Q a w := by
  simp only [Region.lexTailB, Bool.and_eq_true, decide_eq_true_eq] at hB
  obtain ⟨⟨⟨⟨hsel, hn⟩, hs⟩, hc⟩, hlex⟩ := hB
  have hn' : n < l.length := by simpa using hn
  have htl : (l.take n).length = n := by simp; omega
  have hdl : (l.drop n).length = l.toArray.size - n := by simp
  have inv : HeadInv .any l.toArray n (Array.replicate l.toArray.size false) :=
    ⟨by simp, fun j oj _ hl => (by rw [getD_replicate_false] at hl; cases hl), fun t _ ht => getD_in (by simpa using ht) (getD_replicate_false _ _)⟩
  have H := headQ_lex (C := C) (md := .any) (g := l.toArray.size - n) hsel hs hc hn (l.take n) 0 _ a (fun j hj => by
    have hj' : j < n := by rw [htl] at hj; exact hj
    simp [hj']) (by simpa using htl) inv (by rw [htl]; exact hlex) h
  refine wp_region_any hm ?_
  have fin := any_of_headQ (Q := Q) (g := l.toArray.size - n) (fun listed a' w' hw' hL => by
    have := wpAny_of_seq (md := .any) (Q' := Q) (l.drop n) n listed a' w' (fun j => by simp [List.getElem?_drop]) (by rw [hdl]; exact hL.1) (hL.2 w' hw')
    rwa [hdl] at this) _ _ _ _ hC H
  rw [htl, show n + (l.toArray.size - n) = l.toArray.size by omega] at fin
  exact fin
end

/-- The class of the worlds in which all that lay there lies as it lay. -/
theorem wp_region_below_tail {P : Program} {id : Nat} {Q : Exit → Act → World → Prop} {a : Act} {w : World} {l : List Oper} (n : Nat) (hm : P.follows .mixedOrders = true) (hB : Region.lexTailB .any l.toArray n = true)
    (h : wpQuiet P l.toArray (fun w' => ∃ p : Regrown, w' = Sort.grow (redrawn w p.d) p.os) (fun a' => ∀ w', Below w.heap.size w w' → wpList P l.toArray Q (l.drop n) a' w') (l.take n) a) : (Code.region id l.toArray true).wp P Q a w := by
  refine wp_region_quiet_tail n hm hB (C := fun w' => ∃ p : Regrown, w' = Sort.grow (redrawn w p.d) p.os) ⟨⟨w.drawn + 1, #[]⟩, by rw [Sort.grow_empty]; rfl⟩ ?_
  have e : (fun a' => ∀ w', Below w.heap.size w w' → wpList P l.toArray Q (l.drop n) a' w') = fun a' => ∀ w', (∃ p : Regrown, w' = Sort.grow (redrawn w p.d) p.os) → wpList P l.toArray Q (l.drop n) a' w' := by
    funext a'; apply propext
    exact ⟨fun H w' ⟨p, hp⟩ => H w' (by rw [hp]; exact below_regrown w p.d p.os), fun H w' hb => H w' (regrown_of_below hb)⟩
  rw [← e]; exact h
/-- The same without a tail. -/
theorem wp_region_below {P : Program} {id : Nat} {Q : Exit → Act → World → Prop} {a : Act} {w : World} {l : List Oper} (hm : P.follows .mixedOrders = true) (hB : Region.lexB .any l.toArray = true)
    (h : wpQuiet P l.toArray (fun w' => ∃ p : Regrown, w' = Sort.grow (redrawn w p.d) p.os) (fun a' => ∀ w', Below w.heap.size w w' → Q .normal a' w') l a) : (Code.region id l.toArray true).wp P Q a w := by
  refine wp_region_quiet_below hm hB ?_
  have e : (fun a' => ∀ w', Below w.heap.size w w' → Q .normal a' w') = fun a' => ∀ w', (∃ p : Regrown, w' = Sort.grow (redrawn w p.d) p.os) → Q .normal a' w' := by
    funext a'; apply propext
    exact ⟨fun H w' ⟨p, hp⟩ => H w' (by rw [hp]; exact below_regrown w p.d p.os), fun H w' hb => H w' (regrown_of_below hb)⟩
  rw [← e]; exact h

end Go.Proofs.YtonmccmeljeopaaDoor
