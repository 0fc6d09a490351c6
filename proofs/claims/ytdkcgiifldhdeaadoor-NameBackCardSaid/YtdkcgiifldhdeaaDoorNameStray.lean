/-
  WHAT name's isStray AND Runes RETURN; a text as the list of what a range over it hands out.
-/
import Derived.Shelf.Strings.Prefix
import Derived.Test.YtdkcgiifldhdeaaDoorNameBits
import Derived.Test.YtdkcgiifldhdeaaDoorStrP
import Derived.Lib.OthersKept
import Derived.Laws.RangeAny
namespace Go.Proofs
open Go.Shelf
def Tryd.lays99_ren : Go.Shelf.Ren := ⟨fun | 99 => 43 | 206 => 52 | n => n, fun | 3 => 3 | 4 => 4 | 9 => 9 | n => n, fun | n => n⟩
theorem Tryd.lays99 : Go.Proofs.Lays.n99 Tryd.prog Tryd.lays99_ren := {
  mixed := by kernel_rfl
  f99 := Tryd.func43.trans (congrArg some (by kernel_rfl))
  f206 := Tryd.func52.trans (congrArg some (by kernel_rfl))
  t3 := Tryd.underlying3
  a3 := Tryd.isAgg3
  z3 := Tryd.sizeOf3
  v3 := Tryd.zeroValue3
  t4 := Tryd.underlying4
  a4 := Tryd.isAgg4
  z4 := Tryd.sizeOf4
  v4 := Tryd.zeroValue4
  t9 := Tryd.underlying9
  a9 := Tryd.isAgg9
  z9 := Tryd.sizeOf9
  v9 := Tryd.zeroValue9 }
namespace YtdkcgiifldhdeaaDoor
open Go.RowKit
set_option linter.unusedSimpArgs false
set_option linter.unusedVariables false

theorem hasPrefix_calls (s p : ByteArray) (w : World) : Calls Tryd.prog 43 #[.string s, .string p] w fun e w' => e = .returned (.bool (Lib.hasPrefix s.data.toList p.data.toList)) ∧ w' = w :=
  Any.strings_HasPrefix Tryd.lays99 s p w
/-- Is it a stray, what a range hands out there? -/
def pStray (l : List UInt8) (k r : Nat) : Bool := (r == 65533) && !(Lib.hasPrefix (l.drop k) [239, 191, 189])

set_option maxHeartbeats 400000 in
theorem isStray_calls (l : List UInt8) (k r : Nat) (hk : k ≤ l.length) (hl : l.length ≤ 9223372036854775807) (w : World) :
    Calls Tryd.prog 24 #[.string (str l), .int .i64 (k : Int), .int .i32 (r : Int)] w fun e w' => e = .returned (.bool (pStray l k r)) ∧ w' = w := by
  have ed := drop_str l k _ rfl
  have b0 : (0 : Int) ≤ k ∧ (k : Int) ≤ (l.length : Int) := by omega
  by_cases h : r = 65533
  · have hd : ((r : Int) == 65533) = true := by simp; omega
    have hp : pStray l k r = !(Lib.hasPrefix (l.drop k) [239, 191, 189]) := by simp [pStray, h]
    rw [hp]
    clear hp h
    go_enter Tryd.func24, Tryd.ntmps24
    go_wp2_with (go_at_call 43; refine (hasPrefix_calls _ _ _).mono ?_; rintro e w' ⟨rfl, rfl⟩)
    go_ret
    refine ⟨?_, rfl⟩
    simp
  · have hd : ((r : Int) == 65533) = false := by simp; omega
    have hp : pStray l k r = false := by simp [pStray, h]
    rw [hp]
    clear hp h
    go_enter Tryd.func24, Tryd.ntmps24
    go_wp2
    go_ret
    exact ⟨rfl, rfl⟩

/-- What a range hands out from a place on: places and runes. -/
def itemsFrom (s : ByteArray) : Nat → Nat → List (Nat × Nat)
  | 0, _ => []
  | f + 1, pos => if pos < s.size then (pos, (Utf8.decode s pos).1) :: itemsFrom s f (pos + (Utf8.decode s pos).2) else []
def items (l : List UInt8) : List (Nat × Nat) := itemsFrom (str l) l.length 0
theorem width_pos (s : ByteArray) (pos : Nat) (h : pos < s.size) : 1 ≤ (Utf8.decode s pos).2 := by
  by_cases ha : (s[pos]'h).toNat < 128
  · rw [decode_ascii s pos h ha]; exact Nat.le_refl _
  · exact (decode_high s pos h (by omega)).2
theorem itemsFrom_end (s : ByteArray) (fuel pos : Nat) (h : ¬ pos < s.size) : itemsFrom s fuel pos = [] := by
  cases fuel with
  | zero => rfl
  | succ f => simp [itemsFrom, h]
def pRunes (l : List UInt8) : Nat := ((items l).filter fun x => !pStray l x.1 x.2).length
def pStrays (l : List UInt8) : Nat := ((items l).filter fun x => pStray l x.1 x.2).length

set_option maxHeartbeats 2000000 in
set_option maxRecDepth 100000 in
theorem runes_calls (l : List UInt8) (hl : l.length ≤ 4611686018427387904) (w : World) :
    Calls Tryd.prog 10 #[.string (str l)] w fun e w' => e = .returned (.tuple #[.int .i64 (pRunes l : Int), .int .i64 (pStrays l : Int)]) ∧ Below w.heap.size w w' := by
  have hsz : (str l).size = l.length := str_size l
  generalize hs : str l = s at *
  have Hs := hide hs
  have Hsz := hide hsz
  clear hs hsz
  go_enter Tryd.func10, Tryd.ntmps10
  go_wp2
  go_loopw [4, 5] (fun a b wr => ∃ (pos fuel : Nat) (dn : List (Nat × Nat)), a = .int .i64 ((dn.filter fun x => !pStray l x.1 x.2).length : Int) ∧ b = .int .i64 ((dn.filter fun x => pStray l x.1 x.2).length : Int) ∧ wr.heap[w.heap.size]? = some (.stringIter s pos) ∧ Below w.heap.size w wr ∧ Hid (items l = dn ++ itemsFrom s fuel pos) ∧ l.length ≤ pos + fuel ∧ dn.length ≤ pos) (fun _ _ wr => l.length - wr.iterPos w.heap.size)
  case atStart =>
    refine ⟨0, l.length, [], rfl, rfl, ?_, (Below.refl _ w).alloc (Nat.le_refl _) _, ?_, by omega, by simp⟩
    · have := World.iter_heap w s 0
      simpa using this
    · show items l = [] ++ itemsFrom s l.length 0
      rw [List.nil_append, items, unhide Hs]
  case round =>
    obtain ⟨pos, fuel, dn, rfl, rfl, hit, hb, hI, hf, hdn⟩ := hrel
    have hlt : w.heap.size < wr.heap.size := (Array.getElem?_eq_some_iff.1 hit).1
    have hsz := unhide Hsz
    by_cases hp : pos < s.size
    · have hnx : ∀ ty, (Instr.next (.pointer (some ⟨w.heap.size, 0, none⟩)) true ty).run Tryd.prog wr = _ := fun ty => Lib.run_next_any_at wr w.heap.size s pos ty hit hp
      have hwd := width_pos s pos hp
      have hd1 := decode_le s pos
      have hit2 := Lib.iterAt_heap wr w.heap.size s pos (pos + (Utf8.decode s pos).2) hit
      have hb2 := Lib.below_iterAt hb (k := w.heap.size) (Nat.le_refl _) s (pos + (Utf8.decode s pos).2)
      obtain ⟨f, rfl⟩ : ∃ f, fuel = f + 1 := ⟨fuel - 1, by omega⟩
      have hst := isStray_calls l pos (Utf8.decode s pos).1 (by omega) (by omega)
      rw [unhide Hs] at hst
      have hnew : items l = (dn ++ [(pos, (Utf8.decode s pos).1)]) ++ itemsFrom s f (pos + (Utf8.decode s pos).2) := by
        rw [unhide hI]; simp [itemsFrom, hp]
      generalize hr : (Utf8.decode s pos).1 = r at *
      generalize hwv : (Utf8.decode s pos).2 = wd at *
      have Hnew := hide hnew
      have Hst := hide hst
      have Hit2 := hide hit2
      have hfl : (dn.filter fun x => !pStray l x.1 x.2).length ≤ dn.length := List.length_filter_le _ _
      have hfl2 : (dn.filter fun x => pStray l x.1 x.2).length ≤ dn.length := List.length_filter_le _ _
      have hpl : pos < l.length := by omega
      clear hnew hst hr hwv hI hit2 hsz
      cases hc : pStray l pos r with
      | true =>
        have w1 := wi64 (((dn.filter fun x => pStray l x.1 x.2).length : Int) + 1) (by omega) (by omega)
        go_wp2_with (go_at_call 24; refine (unhide Hst _).mono ?_; rintro e w' ⟨rfl, rfl⟩)
        refine ⟨⟨pos + wd, f, dn ++ [(pos, r)], ?_, ?_, unhide Hit2, hb2, Hnew, by omega, by simp; omega⟩, ?_⟩
        · simp [List.filter_append, hc]
        · simp [List.filter_append, hc]
        · simp only [World.iterPos, unhide Hit2, hit]; omega
      | false =>
        have w1 := wi64 (((dn.filter fun x => !pStray l x.1 x.2).length : Int) + 1) (by omega) (by omega)
        go_wp2_with (go_at_call 24; refine (unhide Hst _).mono ?_; rintro e w' ⟨rfl, rfl⟩)
        refine ⟨⟨pos + wd, f, dn ++ [(pos, r)], ?_, ?_, unhide Hit2, hb2, Hnew, by omega, by simp; omega⟩, ?_⟩
        · simp [List.filter_append, hc]
        · simp [List.filter_append, hc]
        · simp only [World.iterPos, unhide Hit2, hit]; omega
    · have hnx : ∀ ty, (Instr.next (.pointer (some ⟨w.heap.size, 0, none⟩)) true ty).run Tryd.prog wr = _ := fun ty => Lib.run_next_end_at wr w.heap.size s pos ty hit hp
      have hI' := unhide hI
      rw [itemsFrom_end s fuel pos hp, List.append_nil] at hI'
      have h1 : pRunes l = (dn.filter fun x => !pStray l x.1 x.2).length := by rw [pRunes, hI']
      have h2 : pStrays l = (dn.filter fun x => pStray l x.1 x.2).length := by rw [pStrays, hI']
      have H1 := hide h1
      have H2 := hide h2
      clear hI' h1 h2 hsz
      go_wp2
      go_ret2
      exact ⟨by rw [unhide H1, unhide H2]; rfl, hb⟩
end YtdkcgiifldhdeaaDoor
end Go.Proofs
