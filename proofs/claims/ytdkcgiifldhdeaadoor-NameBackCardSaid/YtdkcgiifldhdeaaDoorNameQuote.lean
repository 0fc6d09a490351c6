/-
  WHAT name's Quote RETURNS.
-/
import Derived.Test.YtdkcgiifldhdeaaDoorNameFold
import Derived.Test.YtdkcgiifldhdeaaDoorFormat16
namespace Go.Proofs
open Go.Shelf
def Tryd.lays166_ren : Go.Shelf.Ren := ⟨fun | 166 => 39 | 240 => 44 | 276 => 53 | n => n, fun | 0 => 0 | 3 => 3 | 4 => 4 | 5 => 5 | 9 => 9 | 20 => 20 | 37 => 40 | 70 => 39 | 72 => 42 | 75 => 44 | 80 => 48 | 164 => 65 | n => n, fun | n => n⟩
theorem Tryd.lays166 : Go.Proofs.Lays.n166 Tryd.prog Tryd.lays166_ren := {
  mixed := by kernel_rfl
  f166 := Tryd.func39.trans (congrArg some (by kernel_rfl))
  f240 := Tryd.func44.trans (congrArg some (by kernel_rfl))
  f276 := Tryd.func53.trans (congrArg some (by kernel_rfl))
  t0 := Tryd.underlying0
  a0 := Tryd.isAgg0
  z0 := Tryd.sizeOf0
  v0 := Tryd.zeroValue0
  t3 := Tryd.underlying3
  a3 := Tryd.isAgg3
  z3 := Tryd.sizeOf3
  v3 := Tryd.zeroValue3
  t4 := Tryd.underlying4
  a4 := Tryd.isAgg4
  z4 := Tryd.sizeOf4
  v4 := Tryd.zeroValue4
  t9 := Tryd.underlying9
  a9 := Tryd.isAgg9
  z9 := Tryd.sizeOf9
  v9 := Tryd.zeroValue9
  t20 := Tryd.underlying20
  a20 := Tryd.isAgg20
  z20 := Tryd.sizeOf20
  v20 := Tryd.zeroValue20
  t37 := Tryd.underlying40
  a37 := Tryd.isAgg40
  z37 := Tryd.sizeOf40
  v37 := Tryd.zeroValue40
  t70 := Tryd.underlying39
  a70 := Tryd.isAgg39
  z70 := Tryd.sizeOf39
  v70 := Tryd.zeroValue39
  t72 := Tryd.underlying42
  a72 := Tryd.isAgg42
  z72 := Tryd.sizeOf42
  v72 := Tryd.zeroValue42
  t75 := Tryd.underlying44
  a75 := Tryd.isAgg44
  z75 := Tryd.sizeOf44
  v75 := Tryd.zeroValue44
  t164 := Tryd.underlying65
  a164 := Tryd.isAgg65
  z164 := Tryd.sizeOf65
  v164 := Tryd.zeroValue65 }
theorem Tryd.Builder_Extra_166 : Builder.Extra Tryd.prog Tryd.lays166_ren := {
  sizeBuilder := by kernel_rfl
  liesBuilder := by kernel_rfl
  t5 := Tryd.underlying5
  a5 := Tryd.isAgg5
  z5 := Tryd.sizeOf5
  v5 := Tryd.zeroValue5
  infoByte := by kernel_rfl
  cellsByte := by kernel_rfl
  sizeByte := by kernel_rfl
  neB5 := by decide }
namespace YtdkcgiifldhdeaaDoor
open Go.RowKit
set_option linter.unusedSimpArgs false
set_option linter.unusedVariables false
theorem writeString_calls (B b : Nat) (bs : List Value) (s : ByteArray) (w : World) (h : Lib.IsBuilderF 42 5 B b bs w) (hlen : bs.length + s.size ≤ 140737488355328) (hBw : B ≤ w.heap.size) :
    Calls Tryd.prog 39 #[.pointer (some ⟨b, 0, none⟩), .string s] w fun e w' => e = .returned (.tuple #[.int .i64 s.size, .nilIface]) ∧ (Lib.BuilderAtF 42 5 B b (.pointer (some ⟨b, 0, none⟩)) (bs ++ Lib.strCells s) w' ∧ Below B w w' ∧ Lib.OthersKept 5 (some b) w w') :=
  Any.Builder_WriteString_k Tryd.lays166 Tryd.Builder_Extra_166 B b bs s w h hlen hBw
theorem Tab16.below {B : Nat} {w w' : World} (h : Tab16 w) (hb : Below B w w') (hB : w.heap.size ≤ B) : Tab16 w' := by
  unfold Tab16 at *
  rw [hb.cell (p := ⟨7, 15, none⟩) (Nat.lt_of_lt_of_le (block_lt_of_cell h) hB)]; exact h
theorem builder_below {T e : TypeId} {B b : Nat} {p : Value} {bs : List Value} {w w' : World} (h : Lib.BuilderAtF T e B b p bs w) (hb : Below w.heap.size w w') : Lib.BuilderAtF T e B b p bs w' := by
  obtain ⟨hB, v, hv, ⟨h1, h2⟩, hne⟩ := h
  have lt : ∀ k o, w.heap[k]? = some o → k < w.heap.size := fun k o ho => (Array.getElem?_eq_some_iff.1 ho).1
  refine ⟨hB, v, (hb.block b (lt _ _ hv)).trans hv, ⟨h1, ?_⟩, hne⟩
  rcases h2 with h2 | ⟨g, cap, cur, fz, rfl, hg, hh, hrest⟩
  · exact .inl h2
  · exact .inr ⟨g, cap, cur, fz, rfl, hg, (hb.block g (lt _ _ hh)).trans hh, hrest⟩
theorem isBuilder_below {T e : TypeId} {B b : Nat} {bs : List Value} {w w' : World} (h : Lib.IsBuilderF T e B b bs w) (hb : Below w.heap.size w w') : Lib.IsBuilderF T e B b bs w' :=
  h.elim (fun h => .inl (builder_below h hb)) (fun h => .inr (builder_below h hb))

/-- What stands for it in a quote. -/
def quoteItem (l : List UInt8) (x : Nat × Nat) : List UInt8 :=
  if pStray l x.1 x.2 then [92, 120] ++ pHex (l.getD x.1 0).toNat ++ [59]
  else if x.2 = 34 ∨ x.2 = 92 then 92 :: Lib.encodeRune (x.2 : Int)
  else if 32 ≤ x.2 ∧ x.2 ≤ 126 then Lib.encodeRune (x.2 : Int)
  else [92, 117] ++ pHex x.2 ++ [59]
def pQuote (l : List UInt8) : List UInt8 := 34 :: ((items l).flatMap (quoteItem l) ++ [34])

set_option maxHeartbeats 4000000 in
set_option maxRecDepth 1000000 in
theorem quote_calls (l : List UInt8) (hl : l.length ≤ 1099511627776) (w : World) (tab : Tab16 w) :
    Calls Tryd.prog 22 #[.string (str l)] w fun e w' => e = .returned (.string (str (pQuote l))) ∧ Below w.heap.size w w' := by
  have hsz : (str l).size = l.length := str_size l
  have hidx := str_index l
  generalize hs : str l = s at *
  generalize hR : pQuote l = R
  have HR := hide hR
  have Hs := hide hs
  have Hsz := hide hsz
  have Hidx := hide hidx
  have Htab := hide tab
  clear hs hsz hR hidx tab
  go_enter Tryd.func22, Tryd.ntmps22
  go_wp2_with fail
  have hbld := Lib.IsBuilderF.of (Lib.fresh_isBuilder 42 5 w)
  refine (writeByte_calls w.heap.size w.heap.size [] 34 _ hbld (by simp) (by simp)).mono ?_
  rintro e w1 ⟨rfl, h1, b1, k1⟩
  have hb1 : Below w.heap.size w w1 := ((Below.refl _ w).alloc (Nat.le_refl _) _).trans b1
  have hz1 : w.heap.size < w1.heap.size := h1.lt
  clear hbld b1 k1
  go_wp2
  generalize hK : w1.heap.size = K at *
  go_loopw [] (fun wr => ∃ (pos fuel : Nat) (dn : List (Nat × Nat)) (acc : List UInt8), Lib.IsBuilderF 42 5 w.heap.size w.heap.size (Lib.byteCells acc) wr ∧ wr.heap[K]? = some (.stringIter s pos) ∧ Below w.heap.size w wr ∧ Hid (items l = dn ++ itemsFrom s fuel pos) ∧ Hid (acc = 34 :: dn.flatMap (quoteItem l)) ∧ l.length ≤ pos + fuel ∧ acc.length ≤ 13 * pos + 1 ∧ acc.length ≤ 13 * l.length + 1) (fun wr => l.length - wr.iterPos K)
  case atStart =>
    have e : items l = itemsFrom s l.length 0 := by rw [items, unhide Hs]
    refine ⟨0, l.length, [], [34], Lib.IsBuilderF.alloc (.inr h1) _, ?_, hb1.alloc (by omega) _, e, rfl, by omega, by simp, by simp⟩
    have := World.iter_heap w1 s 0
    rw [← hK]; simpa using this
  case round =>
    clear hK h1 hb1
    obtain ⟨pos, fuel, dn, acc, hB, hit, hb, hI, hA, hf, hal, hal2⟩ := hrel
    have hlt : K < wr.heap.size := (Array.getElem?_eq_some_iff.1 hit).1
    have hsz := unhide Hsz
    by_cases hp : pos < s.size
    · have hnx : ∀ ty, (Instr.next (.pointer (some ⟨K, 0, none⟩)) true ty).run Tryd.prog wr = _ := fun ty => Lib.run_next_any_at wr K s pos ty hit hp
      have hwd := width_pos s pos hp
      have hd1 := decode_le s pos
      have hI2 := hB.iterAt hit (pos + (Utf8.decode s pos).2)
      have hit2 := Lib.iterAt_heap wr K s pos (pos + (Utf8.decode s pos).2) hit
      have hb2 := Lib.below_iterAt hb (k := K) (by omega) s (pos + (Utf8.decode s pos).2)
      have hsz2 : (wr.iterAt K s (pos + (Utf8.decode s pos).2)).heap.size = wr.heap.size := Lib.iterAt_size _ _ _ _
      obtain ⟨f, rfl⟩ : ∃ f, fuel = f + 1 := ⟨fuel - 1, by omega⟩
      have hst := isStray_calls l pos (Utf8.decode s pos).1 (by omega) (by omega)
      rw [unhide Hs] at hst
      have hnew : items l = (dn ++ [(pos, (Utf8.decode s pos).1)]) ++ itemsFrom s f (pos + (Utf8.decode s pos).2) := by
        rw [unhide hI]; simp [itemsFrom, hp]
      have hix := unhide Hidx pos (by omega)
      generalize hbx : l.getD pos 0 = bx at hix
      have Hbx := hide hbx
      clear hbx
      generalize hr : (Utf8.decode s pos).1 = r at *
      generalize hwv : (Utf8.decode s pos).2 = wd at *
      generalize hW : wr.iterAt K s (pos + wd) = W at *
      have hpl : pos < l.length := by omega
      have hWz : w.heap.size ≤ W.heap.size ∧ K < W.heap.size := by omega
      have Hnew := hide hnew
      have Hst := hide hst
      have Hit2 := hide hit2
      have HI2 := hide hI2
      have HtW := hide ((unhide Htab).below hb2 (Nat.le_refl _))
      clear hnew hst hr hwv hI hit2 hsz hI2 hsz2 hW
      have fin : ∀ (W1 : World) (add : List UInt8), quoteItem l (pos, r) = add → add.length ≤ 13 → Lib.IsBuilderF 42 5 w.heap.size w.heap.size (Lib.byteCells (acc ++ add)) W1 → Below w.heap.size W W1 → W1.heap[K]? = some (.stringIter s (pos + wd)) → (∃ (pos fuel : Nat) (dn : List (Nat × Nat)) (acc : List UInt8), Lib.IsBuilderF 42 5 w.heap.size w.heap.size (Lib.byteCells acc) W1 ∧ W1.heap[K]? = some (.stringIter s pos) ∧ Below w.heap.size w W1 ∧ Hid (items l = dn ++ itemsFrom s fuel pos) ∧ Hid (acc = 34 :: dn.flatMap (quoteItem l)) ∧ l.length ≤ pos + fuel ∧ acc.length ≤ 13 * pos + 1 ∧ acc.length ≤ 13 * l.length + 1) ∧ l.length - W1.iterPos K < l.length - wr.iterPos K := fun W1 add h1 h2 h3 h4 h5 => by
        refine ⟨⟨pos + wd, f, dn ++ [(pos, r)], acc ++ add, h3, h5, hb2.trans h4, Hnew, ?_, by omega, by simp; omega, by simp; omega⟩, ?_⟩
        · show acc ++ add = _
          rw [unhide hA, List.flatMap_append]; simp [h1]
        · simp only [World.iterPos, h5, hit]; omega
      have Fin := hide fin
      clear fin
      have Hs2 := unhide Hst
      cases hc : pStray l pos r with
      | true =>
        rw [hc] at Hs2
        have HS2 := hide Hs2
        have hitem : quoteItem l (pos, r) = [92, 120] ++ pHex bx.toNat ++ [59] := by rw [quoteItem, if_pos hc, unhide Hbx]
        have Hitem := hide hitem
        have hb8 := bx.toNat_lt
        have hpx := pHex_length bx.toNat
        clear Hs2 hc hitem
        go_wp2_with (go_at_call 24; refine (unhide HS2 _).mono ?_; rintro e w' ⟨rfl, rfl⟩)
        refine (formatUint_calls bx.toNat (by omega) _ (unhide HtW)).mono ?_
        rintro e W2 ⟨rfl, hb3⟩
        generalize hphx : pHex bx.toNat = px at *
        have a3 : ({ data := #[92, 120] } : ByteArray) ++ str px ++ { data := #[59] } = str ([92, 120] ++ px ++ [59]) := (congrArg (· ++ str [59]) (append_str [92, 120] px)).trans (append_str _ _)
        have n1 : ¬ 9223372036854775807 < 2 + px.length := by omega
        have n2 : ¬ 9223372036854775807 < 2 + px.length + 1 := by omega
        have hI3 := isBuilder_below (unhide HI2) hb3
        have hit3 := Below.at hb3 hWz.2 (unhide Hit2)
        have hz3 := hb3.size
        have HA3 := hide a3
        have HI3 := hide hI3
        have HIT3 := hide hit3
        have HB3 := hide hb3
        clear hphx hb3 a3 hI3 hit3
        go_wp2_with fail
        rw [unhide HA3]
        have hln : (str ([92, 120] ++ px ++ [59])).size = px.length + 3 := by rw [str_size]; simp
        refine (writeString_calls w.heap.size w.heap.size _ _ _ (unhide HI3) (by rw [Lib.byteCells_length, hln]; omega) (by omega)).mono ?_
        rintro e W1 ⟨rfl, h1, b1, k1⟩
        clear hln
        go_wp2
        refine unhide Fin W1 _ (unhide Hitem) (by simp; omega) ?_ (((unhide HB3).mono hWz.1).trans b1) (k1.iter (unhide HIT3) (by omega))
        rw [Lib.byteCells_append]
        have e4 : Lib.strCells (str ([92, 120] ++ px ++ [59])) = Lib.byteCells ([92, 120] ++ px ++ [59]) := by simp [Lib.strCells, Lib.byteCells, str]
        rw [e4] at h1
        exact Or.inr h1
      | false =>
        rw [hc] at Hs2
        have HS2 := hide Hs2
        have hcf : ¬ pStray l pos r = true := by rw [hc]; exact Bool.false_ne_true
        clear Hs2 hc
        by_cases hq : r = 34 ∨ r = 92
        · have hitem : quoteItem l (pos, r) = 92 :: Lib.encodeRune (r : Int) := by rw [quoteItem, if_neg hcf, if_pos hq]
          have Hitem := hide hitem
          clear hitem hcf
          have body : ∀ W1, Lib.BuilderAtF 42 5 w.heap.size w.heap.size (.pointer (some ⟨w.heap.size, 0, none⟩)) (Lib.byteCells acc ++ [.int .u8 92]) W1 → Below w.heap.size W W1 → Lib.OthersKept 5 (some w.heap.size) W W1 → Calls Tryd.prog 31 #[.pointer (some ⟨w.heap.size, 0, none⟩), .int .i32 (r : Int)] W1 fun e w' => e = .returned (.tuple #[.int .i64 (Lib.runeCells (r : Int)).length, .nilIface]) ∧ Lib.IsBuilderF 42 5 w.heap.size w.heap.size (Lib.byteCells (acc ++ 92 :: Lib.encodeRune (r : Int))) w' ∧ Below w.heap.size W w' ∧ w'.heap[K]? = some (.stringIter s (pos + wd)) := fun W1 h1 b1 k1 => by
            refine (writeRune_calls w.heap.size w.heap.size _ (r : Int) (by omega) (by omega) _ (.inr h1) (by rw [List.length_append, Lib.byteCells_length]; simp; omega) (by have := b1.size; omega)).mono ?_
            rintro e W2 ⟨rfl, h2, b2, k2⟩
            refine ⟨rfl, ?_, b1.trans b2, k2.iter (k1.iter (unhide Hit2) (by omega)) (by omega)⟩
            rw [show acc ++ 92 :: Lib.encodeRune (r : Int) = (acc ++ [92]) ++ Lib.encodeRune (r : Int) by simp, Lib.byteCells_append, Lib.byteCells_append, Lib.byteCells_encodeRune]
            exact Or.inr h2
          have Body := hide body
          clear body
          rcases hq with hq | hq
          · have d1 : ((r : Int) == 34) = true := by simp; omega
            clear hq
            go_wp2_with (go_at_call 24; refine (unhide HS2 _).mono ?_; rintro e w' ⟨rfl, rfl⟩)
            refine (writeByte_calls w.heap.size w.heap.size _ _ _ (unhide HI2) (by rw [Lib.byteCells_length]; omega) hWz.1).mono ?_
            rintro e W1 ⟨rfl, h1, b1, k1⟩
            have HBo := hide (unhide Body W1 h1 b1 k1)
            clear h1 b1 k1
            go_wp2_with fail
            refine (unhide HBo).mono ?_
            rintro e W2 ⟨rfl, h2, b2, k2⟩
            go_wp2
            exact unhide Fin W2 _ (unhide Hitem) (by have := enc_le (r : Int); simp; omega) h2 b2 k2
          · have d1 : ((r : Int) == 34) = false := by simp; omega
            have d2 : ((r : Int) == 92) = true := by simp; omega
            clear hq
            go_wp2_with (go_at_call 24; refine (unhide HS2 _).mono ?_; rintro e w' ⟨rfl, rfl⟩)
            refine (writeByte_calls w.heap.size w.heap.size _ _ _ (unhide HI2) (by rw [Lib.byteCells_length]; omega) hWz.1).mono ?_
            rintro e W1 ⟨rfl, h1, b1, k1⟩
            have HBo := hide (unhide Body W1 h1 b1 k1)
            clear h1 b1 k1
            go_wp2_with fail
            refine (unhide HBo).mono ?_
            rintro e W2 ⟨rfl, h2, b2, k2⟩
            go_wp2
            exact unhide Fin W2 _ (unhide Hitem) (by have := enc_le (r : Int); simp; omega) h2 b2 k2
        · have d1 : ((r : Int) == 34) = false := by simp; omega
          have d2 : ((r : Int) == 92) = false := by simp; omega
          by_cases hpr : 32 ≤ r ∧ r ≤ 126
          · have hitem : quoteItem l (pos, r) = Lib.encodeRune (r : Int) := by rw [quoteItem, if_neg hcf, if_neg hq, if_pos hpr]
            have Hitem := hide hitem
            have d3 : decide ((32 : Int) ≤ (r : Int)) = true := by simp; omega
            have d4 : decide ((r : Int) ≤ 126) = true := by simp; omega
            clear hitem hcf hq
            go_wp2_with (go_at_call 24; refine (unhide HS2 _).mono ?_; rintro e w' ⟨rfl, rfl⟩)
            refine (writeRune_calls w.heap.size w.heap.size _ _ (by omega) (by omega) _ (unhide HI2) (by rw [Lib.byteCells_length]; omega) hWz.1).mono ?_
            rintro e W1 ⟨rfl, h1, b1, k1⟩
            go_wp2
            refine unhide Fin W1 _ (unhide Hitem) (by have := enc_le (r : Int); omega) ?_ b1 (k1.iter (unhide Hit2) (by omega))
            rw [Lib.byteCells_append, Lib.byteCells_encodeRune]; exact Or.inr h1
          · have hitem : quoteItem l (pos, r) = [92, 117] ++ pHex r ++ [59] := by rw [quoteItem, if_neg hcf, if_neg hq, if_neg hpr]
            have Hitem := hide hitem
            have hpx := pHex_length r
            have wu := wu64 (r : Int) (by omega) (by omega)
            have Hfu := hide (formatUint_calls r (by omega) W (unhide HtW))
            clear hitem hcf hq
            generalize hphx : pHex r = px at *
            by_cases h32 : 32 ≤ r
            · have d3 : decide ((32 : Int) ≤ (r : Int)) = true := by simp; omega
              have d4 : decide ((r : Int) ≤ 126) = false := by simp; omega
              go_wp2_with (go_at_call 24; refine (unhide HS2 _).mono ?_; rintro e w' ⟨rfl, rfl⟩)
              refine (unhide Hfu).mono ?_
              rintro e W2 ⟨rfl, hb3⟩
              have a3 : ({ data := #[92, 117] } : ByteArray) ++ str px ++ { data := #[59] } = str ([92, 117] ++ px ++ [59]) := (congrArg (· ++ str [59]) (append_str [92, 117] px)).trans (append_str _ _)
              have n1 : ¬ 9223372036854775807 < 2 + px.length := by omega
              have n2 : ¬ 9223372036854775807 < 2 + px.length + 1 := by omega
              have hI3 := isBuilder_below (unhide HI2) hb3
              have hit3 := Below.at hb3 hWz.2 (unhide Hit2)
              have hz3 := hb3.size
              have HA3 := hide a3
              have HI3 := hide hI3
              have HIT3 := hide hit3
              have HB3 := hide hb3
              clear hphx hb3 a3 hI3 hit3
              go_wp2_with fail
              rw [unhide HA3]
              have hln : (str ([92, 117] ++ px ++ [59])).size = px.length + 3 := by rw [str_size]; simp
              refine (writeString_calls w.heap.size w.heap.size _ _ _ (unhide HI3) (by rw [Lib.byteCells_length, hln]; omega) (by omega)).mono ?_
              rintro e W1 ⟨rfl, h1, b1, k1⟩
              clear hln
              go_wp2
              refine unhide Fin W1 _ (unhide Hitem) (by simp; omega) ?_ (((unhide HB3).mono hWz.1).trans b1) (k1.iter (unhide HIT3) (by omega))
              rw [Lib.byteCells_append]
              have e4 : Lib.strCells (str ([92, 117] ++ px ++ [59])) = Lib.byteCells ([92, 117] ++ px ++ [59]) := by simp [Lib.strCells, Lib.byteCells, str]
              rw [e4] at h1
              exact Or.inr h1
            · have d3 : decide ((32 : Int) ≤ (r : Int)) = false := by simp; omega
              go_wp2_with (go_at_call 24; refine (unhide HS2 _).mono ?_; rintro e w' ⟨rfl, rfl⟩)
              refine (unhide Hfu).mono ?_
              rintro e W2 ⟨rfl, hb3⟩
              have a3 : ({ data := #[92, 117] } : ByteArray) ++ str px ++ { data := #[59] } = str ([92, 117] ++ px ++ [59]) := (congrArg (· ++ str [59]) (append_str [92, 117] px)).trans (append_str _ _)
              have n1 : ¬ 9223372036854775807 < 2 + px.length := by omega
              have n2 : ¬ 9223372036854775807 < 2 + px.length + 1 := by omega
              have hI3 := isBuilder_below (unhide HI2) hb3
              have hit3 := Below.at hb3 hWz.2 (unhide Hit2)
              have hz3 := hb3.size
              have HA3 := hide a3
              have HI3 := hide hI3
              have HIT3 := hide hit3
              have HB3 := hide hb3
              clear hphx hb3 a3 hI3 hit3
              go_wp2_with fail
              rw [unhide HA3]
              have hln : (str ([92, 117] ++ px ++ [59])).size = px.length + 3 := by rw [str_size]; simp
              refine (writeString_calls w.heap.size w.heap.size _ _ _ (unhide HI3) (by rw [Lib.byteCells_length, hln]; omega) (by omega)).mono ?_
              rintro e W1 ⟨rfl, h1, b1, k1⟩
              clear hln
              go_wp2
              refine unhide Fin W1 _ (unhide Hitem) (by simp; omega) ?_ (((unhide HB3).mono hWz.1).trans b1) (k1.iter (unhide HIT3) (by omega))
              rw [Lib.byteCells_append]
              have e4 : Lib.strCells (str ([92, 117] ++ px ++ [59])) = Lib.byteCells ([92, 117] ++ px ++ [59]) := by simp [Lib.strCells, Lib.byteCells, str]
              rw [e4] at h1
              exact Or.inr h1
    · have hnx : ∀ ty, (Instr.next (.pointer (some ⟨K, 0, none⟩)) true ty).run Tryd.prog wr = _ := fun ty => Lib.run_next_end_at wr K s pos ty hit hp
      have hI' := unhide hI
      rw [itemsFrom_end s fuel pos hp, List.append_nil] at hI'
      have hR : R = acc ++ [34] := by rw [← unhide HR, pQuote, hI', unhide hA]; simp
      have HRa := hide hR
      clear hI' hR
      go_wp2_with fail
      refine (writeByte_calls w.heap.size w.heap.size _ _ _ hB (by rw [Lib.byteCells_length]; omega) (by omega)).mono ?_
      rintro e W1 ⟨rfl, h1, b1, k1⟩
      have z1 := b1.size
      go_wp2_with fail
      refine (string_calls w.heap.size w.heap.size (acc ++ [34]) _ (by rw [Lib.byteCells_append]; exact Or.inr h1) (by omega)).mono ?_
      rintro e W2 ⟨rfl, _, b2, _⟩
      go_wp2
      go_ret
      exact ⟨by rw [unhide HRa]; rfl, (hb.trans b1).trans b2⟩
end YtdkcgiifldhdeaaDoor
end Go.Proofs
