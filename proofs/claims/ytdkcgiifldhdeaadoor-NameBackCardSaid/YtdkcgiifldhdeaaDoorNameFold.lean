/-
  WHAT name's Fold RETURNS.
-/
import Derived.Test.YtdkcgiifldhdeaaDoorNameStray
import Derived.Test.YtdkcgiifldhdeaaDoorShelfB
import Derived.Test.YtdkcgiifldhdeaaDoorStrIdx
namespace Go.Proofs
open Go.Shelf
def Tryd.lays168_ren : Go.Shelf.Ren := ⟨fun | 168 => 31 | 240 => 44 | 242 => 45 | 276 => 53 | 278 => 54 | n => n, fun | 0 => 0 | 3 => 3 | 4 => 4 | 5 => 5 | 9 => 9 | 20 => 20 | 21 => 21 | 37 => 40 | 46 => 32 | 51 => 67 | 70 => 39 | 72 => 42 | 75 => 44 | 80 => 48 | 164 => 65 | n => n, fun | n => n⟩
theorem Tryd.lays168 : Go.Proofs.Lays.n168 Tryd.prog Tryd.lays168_ren := {
  mixed := by kernel_rfl
  f168 := Tryd.func31.trans (congrArg some (by kernel_rfl))
  f240 := Tryd.func44.trans (congrArg some (by kernel_rfl))
  f242 := Tryd.func45.trans (congrArg some (by kernel_rfl))
  f276 := Tryd.func53.trans (congrArg some (by kernel_rfl))
  f278 := Tryd.func54.trans (congrArg some (by kernel_rfl))
  t0 := Tryd.underlying0
  a0 := Tryd.isAgg0
  z0 := Tryd.sizeOf0
  v0 := Tryd.zeroValue0
  t3 := Tryd.underlying3
  a3 := Tryd.isAgg3
  z3 := Tryd.sizeOf3
  v3 := Tryd.zeroValue3
  t4 := Tryd.underlying4
  a4 := Tryd.isAgg4
  z4 := Tryd.sizeOf4
  v4 := Tryd.zeroValue4
  t5 := Tryd.underlying5
  a5 := Tryd.isAgg5
  z5 := Tryd.sizeOf5
  v5 := Tryd.zeroValue5
  t9 := Tryd.underlying9
  a9 := Tryd.isAgg9
  z9 := Tryd.sizeOf9
  v9 := Tryd.zeroValue9
  t20 := Tryd.underlying20
  a20 := Tryd.isAgg20
  z20 := Tryd.sizeOf20
  v20 := Tryd.zeroValue20
  t21 := Tryd.underlying21
  a21 := Tryd.isAgg21
  z21 := Tryd.sizeOf21
  v21 := Tryd.zeroValue21
  t37 := Tryd.underlying40
  a37 := Tryd.isAgg40
  z37 := Tryd.sizeOf40
  v37 := Tryd.zeroValue40
  t46 := Tryd.underlying32
  a46 := Tryd.isAgg32
  z46 := Tryd.sizeOf32
  v46 := Tryd.zeroValue32
  t51 := Tryd.underlying67
  a51 := Tryd.isAgg67
  z51 := Tryd.sizeOf67
  v51 := Tryd.zeroValue67
  t70 := Tryd.underlying39
  a70 := Tryd.isAgg39
  z70 := Tryd.sizeOf39
  v70 := Tryd.zeroValue39
  t72 := Tryd.underlying42
  a72 := Tryd.isAgg42
  z72 := Tryd.sizeOf42
  v72 := Tryd.zeroValue42
  t75 := Tryd.underlying44
  a75 := Tryd.isAgg44
  z75 := Tryd.sizeOf44
  v75 := Tryd.zeroValue44
  t164 := Tryd.underlying65
  a164 := Tryd.isAgg65
  z164 := Tryd.sizeOf65
  v164 := Tryd.zeroValue65 }
theorem Tryd.Builder_Extra_168 : Builder.Extra Tryd.prog Tryd.lays168_ren := {
  sizeBuilder := by kernel_rfl
  liesBuilder := by kernel_rfl
  t5 := Tryd.underlying5
  a5 := Tryd.isAgg5
  z5 := Tryd.sizeOf5
  v5 := Tryd.zeroValue5
  infoByte := by kernel_rfl
  cellsByte := by kernel_rfl
  sizeByte := by kernel_rfl
  neB5 := by decide }
namespace YtdkcgiifldhdeaaDoor
open Go.RowKit
set_option linter.unusedSimpArgs false
set_option linter.unusedVariables false
theorem writeRune_calls (B b : Nat) (bs : List Value) (r : Int) (hr0 : -2147483648 ≤ r) (hr1 : r ≤ 2147483647) (w : World) (h : Lib.IsBuilderF 42 5 B b bs w) (hlen : bs.length + 4 ≤ 140737488355328) (hBw : B ≤ w.heap.size) :
    Calls Tryd.prog 31 #[.pointer (some ⟨b, 0, none⟩), .int .i32 r] w fun e w' => e = .returned (.tuple #[.int .i64 (Lib.runeCells r).length, .nilIface]) ∧ (Lib.BuilderAtF 42 5 B b (.pointer (some ⟨b, 0, none⟩)) (bs ++ Lib.runeCells r) w' ∧ Below B w w' ∧ Lib.OthersKept 5 (some b) w w') :=
  Any.Builder_WriteRune_k Tryd.lays168 Tryd.Builder_Extra_168 B b bs r hr0 hr1 w h hlen hBw

/-- What stands for it in a text without capitals. -/
def foldItem (l : List UInt8) (x : Nat × Nat) : List UInt8 := if pStray l x.1 x.2 then [l.getD x.1 0] else if pCapital x.2 then Lib.encodeRune ((x.2 : Int) + 32) else Lib.encodeRune (x.2 : Int)
def pFold (l : List UInt8) : List UInt8 := (items l).flatMap (foldItem l)
theorem enc_le (r : Int) : (Lib.encodeRune r).length ≤ 4 := by
  have := Lib.runeCells_le r
  rw [Lib.runeCells_length] at this; exact this.2

set_option maxHeartbeats 4000000 in
set_option maxRecDepth 1000000 in
theorem fold_calls (l : List UInt8) (hl : l.length ≤ 35184372088832) (w : World) :
    Calls Tryd.prog 16 #[.string (str l)] w fun e w' => e = .returned (.string (str (pFold l))) ∧ Below w.heap.size w w' := by
  have hsz : (str l).size = l.length := str_size l
  have hidx := str_index l
  generalize hs : str l = s at *
  generalize hR : pFold l = R
  have HR := hide hR
  have Hs := hide hs
  have Hsz := hide hsz
  have Hidx := hide hidx
  clear hs hsz hR hidx
  go_enter Tryd.func16, Tryd.ntmps16
  go_wp2
  go_loopw [] (fun wr => ∃ (pos fuel : Nat) (dn : List (Nat × Nat)) (acc : List UInt8), Lib.IsBuilderF 42 5 w.heap.size w.heap.size (Lib.byteCells acc) wr ∧ wr.heap[w.heap.size + 1]? = some (.stringIter s pos) ∧ Below w.heap.size w wr ∧ Hid (items l = dn ++ itemsFrom s fuel pos) ∧ Hid (acc = dn.flatMap (foldItem l)) ∧ l.length ≤ pos + fuel ∧ acc.length ≤ 4 * pos) (fun wr => l.length - wr.iterPos (w.heap.size + 1))
  case atStart =>
    have e : items l = itemsFrom s l.length 0 := by rw [items, unhide Hs]
    refine ⟨0, l.length, [], [], (Lib.IsBuilderF.of (Lib.fresh_isBuilder 42 5 w)).alloc _, ?_, ((Below.refl _ w).alloc (Nat.le_refl _) _).alloc (by simp) _, e, rfl, by omega, by simp⟩
    have := World.iter_heap (w.alloc (.cells #[.pointer none, .slice none 0 0] 42)) s 0
    simpa using this
  case round =>
    obtain ⟨pos, fuel, dn, acc, hB, hit, hb, hI, hA, hf, hal⟩ := hrel
    have hlt : w.heap.size + 1 < wr.heap.size := (Array.getElem?_eq_some_iff.1 hit).1
    have hsz := unhide Hsz
    by_cases hp : pos < s.size
    · have hnx : ∀ ty, (Instr.next (.pointer (some ⟨w.heap.size + 1, 0, none⟩)) true ty).run Tryd.prog wr = _ := fun ty => Lib.run_next_any_at wr (w.heap.size + 1) s pos ty hit hp
      have hwd := width_pos s pos hp
      have hd1 := decode_le s pos
      have hI2 := hB.iterAt hit (pos + (Utf8.decode s pos).2)
      have hit2 := Lib.iterAt_heap wr (w.heap.size + 1) s pos (pos + (Utf8.decode s pos).2) hit
      have hb2 := Lib.below_iterAt hb (k := w.heap.size + 1) (by omega) s (pos + (Utf8.decode s pos).2)
      have hsz2 : w.heap.size ≤ (wr.iterAt (w.heap.size + 1) s (pos + (Utf8.decode s pos).2)).heap.size := by rw [Lib.iterAt_size]; omega
      obtain ⟨f, rfl⟩ : ∃ f, fuel = f + 1 := ⟨fuel - 1, by omega⟩
      have hst := isStray_calls l pos (Utf8.decode s pos).1 (by omega) (by omega)
      rw [unhide Hs] at hst
      have hnew : items l = (dn ++ [(pos, (Utf8.decode s pos).1)]) ++ itemsFrom s f (pos + (Utf8.decode s pos).2) := by
        rw [unhide hI]; simp [itemsFrom, hp]
      have hix := unhide Hidx pos (by omega)
      generalize hbx : l.getD pos 0 = bx at hix
      have Hbx := hide hbx
      clear hbx
      generalize hr : (Utf8.decode s pos).1 = r at *
      generalize hwv : (Utf8.decode s pos).2 = wd at *
      have hpl : pos < l.length := by omega
      have Hnew := hide hnew
      have Hst := hide hst
      have Hit2 := hide hit2
      have HI2 := hide hI2
      clear hnew hst hr hwv hI hit2 hsz hI2
      have fin : ∀ (W1 : World) (add : List UInt8), foldItem l (pos, r) = add → add.length ≤ 4 → Lib.IsBuilderF 42 5 w.heap.size w.heap.size (Lib.byteCells (acc ++ add)) W1 → Below w.heap.size (wr.iterAt (w.heap.size + 1) s (pos + wd)) W1 → W1.heap[w.heap.size + 1]? = some (.stringIter s (pos + wd)) → (∃ (pos fuel : Nat) (dn : List (Nat × Nat)) (acc : List UInt8), Lib.IsBuilderF 42 5 w.heap.size w.heap.size (Lib.byteCells acc) W1 ∧ W1.heap[w.heap.size + 1]? = some (.stringIter s pos) ∧ Below w.heap.size w W1 ∧ Hid (items l = dn ++ itemsFrom s fuel pos) ∧ Hid (acc = dn.flatMap (foldItem l)) ∧ l.length ≤ pos + fuel ∧ acc.length ≤ 4 * pos) ∧ l.length - W1.iterPos (w.heap.size + 1) < l.length - wr.iterPos (w.heap.size + 1) := fun W1 add h1 h2 h3 h4 h5 => by
        refine ⟨⟨pos + wd, f, dn ++ [(pos, r)], acc ++ add, h3, h5, hb2.trans h4, Hnew, ?_, by omega, by simp; omega⟩, ?_⟩
        · show acc ++ add = _
          rw [List.flatMap_append, ← unhide hA]; simp [h1]
        · simp only [World.iterPos, h5, hit]; omega
      have Fin := hide fin
      clear fin
      cases hc : pStray l pos r with
      | true =>
        have hitem : foldItem l (pos, r) = [bx] := by rw [foldItem, if_pos hc, unhide Hbx]
        have Hitem := hide hitem
        have Hs2 := unhide Hst
        rw [hc] at Hs2
        have HS2 := hide Hs2
        clear Hs2 hc hitem
        go_wp2_with (go_at_call 24; refine (unhide HS2 _).mono ?_; rintro e w' ⟨rfl, rfl⟩)
        refine (writeByte_calls w.heap.size w.heap.size _ _ _ (unhide HI2) (by rw [Lib.byteCells_length]; omega) hsz2).mono ?_
        rintro e W1 ⟨rfl, h1, b1, k1⟩
        go_wp2
        refine unhide Fin W1 [bx] (unhide Hitem) (by simp) ?_ b1 (k1.iter (unhide Hit2) (by omega))
        rw [Lib.byteCells_append]; exact Or.inr h1
      | false =>
        have Hs2 := unhide Hst
        rw [hc] at Hs2
        have HS2 := hide Hs2
        cases hcap : pCapital r with
        | true =>
          have hitem : foldItem l (pos, r) = Lib.encodeRune ((r : Int) + 32) := by rw [foldItem, if_neg (by rw [hc]; exact Bool.false_ne_true), if_pos hcap]
          have Hitem := hide hitem
          have hr937 : r ≤ 937 := by simp [pCapital] at hcap; omega
          have Hcap := fun w => isCapital_calls r w
          rw [hcap] at Hcap
          have HCap := hide Hcap
          have wr32 : IntKind.i32.wrap ((r : Int) + 32) = (r : Int) + 32 := by rw [IntKind.wrap_i32]; omega
          clear Hs2 hc hitem Hcap hcap
          go_wp2_with (first
            | (go_at_call 24; refine (unhide HS2 _).mono ?_; rintro e w' ⟨rfl, rfl⟩)
            | (go_at_call 30; refine (unhide HCap _).mono ?_; rintro e w' ⟨rfl, rfl⟩))
          refine (writeRune_calls w.heap.size w.heap.size _ _ (by omega) (by omega) _ (unhide HI2) (by rw [Lib.byteCells_length]; omega) hsz2).mono ?_
          rintro e W1 ⟨rfl, h1, b1, k1⟩
          go_wp2
          refine unhide Fin W1 _ (unhide Hitem) (enc_le _) ?_ b1 (k1.iter (unhide Hit2) (by omega))
          rw [Lib.byteCells_append, Lib.byteCells_encodeRune]; exact Or.inr h1
        | false =>
          have hitem : foldItem l (pos, r) = Lib.encodeRune (r : Int) := by rw [foldItem, if_neg (by rw [hc]; exact Bool.false_ne_true), if_neg (by rw [hcap]; exact Bool.false_ne_true)]
          have Hitem := hide hitem
          have Hcap := fun w => isCapital_calls r w
          rw [hcap] at Hcap
          have HCap := hide Hcap
          clear Hs2 hc hitem Hcap hcap
          go_wp2_with (first
            | (go_at_call 24; refine (unhide HS2 _).mono ?_; rintro e w' ⟨rfl, rfl⟩)
            | (go_at_call 30; refine (unhide HCap _).mono ?_; rintro e w' ⟨rfl, rfl⟩))
          refine (writeRune_calls w.heap.size w.heap.size _ _ (by omega) (by omega) _ (unhide HI2) (by rw [Lib.byteCells_length]; omega) hsz2).mono ?_
          rintro e W1 ⟨rfl, h1, b1, k1⟩
          go_wp2
          refine unhide Fin W1 _ (unhide Hitem) (enc_le _) ?_ b1 (k1.iter (unhide Hit2) (by omega))
          rw [Lib.byteCells_append, Lib.byteCells_encodeRune]; exact Or.inr h1
    · have hnx : ∀ ty, (Instr.next (.pointer (some ⟨w.heap.size + 1, 0, none⟩)) true ty).run Tryd.prog wr = _ := fun ty => Lib.run_next_end_at wr (w.heap.size + 1) s pos ty hit hp
      have hI' := unhide hI
      rw [itemsFrom_end s fuel pos hp, List.append_nil] at hI'
      have hR : R = acc := by rw [← unhide HR, pFold, hI', ← unhide hA]
      have HRa := hide hR
      clear hI' hR hsz
      go_wp2_with fail
      refine (string_calls w.heap.size w.heap.size acc _ hB (by omega)).mono ?_
      rintro e W1 ⟨rfl, _, b1, _⟩
      go_wp2
      go_ret
      exact ⟨by rw [unhide HRa]; rfl, hb.trans b1⟩
end YtdkcgiifldhdeaaDoor
end Go.Proofs
