/-
  WHAT THE DOCUMENT'S OWN Count, Right, Says OF LAYER 2 RETURN: what name's own answer.
-/
import Derived.Test.YtjfnaedcdmmigaaDoorJ2
import Derived.Test.YtjfnaedcdmmigaaDoorJ0
import Derived.Shelf.Unicode.DecodeAny
import Derived.Deep.QuietTactic
import Derived.BigQuiet
import Derived.Deep.RegionHeld3
import Derived.Laws.Rows
import Derived.Laws.IdiomStrings
import Derived.Deep.MidRow
import Derived.Deep.RegionLaw
import Derived.Laws.IdiomCopy
import Derived.Shelf.Spec.SlicesInsert
import Derived.Lib.AppendZerosOnto
import Derived.Laws.NewBlocks
/-
  WHAT name's firstPlace AND Order RETURN: the order of the lists of what runes and strays count as.
-/
/-
  WHAT name's Order RETURNS.
-/
/-
  THE ORDER OF KEYS.
-/
/-
  WHETHER A TOKEN, A HOLDING STANDS BEHIND A KEY.
-/
/-
  A PURSE IN MEMORY; Twin.
-/
/-
  A ROW STORED INTO A BLOCK THAT WAS JUST MADE: the world behind it is a letter of which all is known. Over whatever program.
-/
/-
  Known; Held.
-/
/-
  How much somebody holds.
-/
/-
  BYTES IN MEMORY FROM A PLACE ON; '[]byte(s)' UNDER A NAME OF ITS OWN: the world behind it, its capacity, and what is known of them.
-/
/-
  BYTES STORED INTO THE MIDDLE OF A BLOCK OF BYTES; a part of an array's value.
-/
/-
  slices.Delete OF ONE HOLDING, in a row of the caller's own.
-/
/-
  ROWS OF STRUCTS: copy; what an Insert leaves.
-/
namespace Go.Proofs.YtjfnaedcdmmigaaDoor
open Go.RowKit
set_option linter.unusedSimpArgs false
set_option linter.unusedVariables false

theorem good_mem : ∀ ts : List Tok, Good ts → ∀ t ∈ ts, (∃ r, t.1 = some r ∧ validRune r) ∨ ∃ b, t = (none, [b])
  | [], _, t, h => by cases h
  | t :: ts, ⟨h1, h2, h3⟩, x, hx => by
    rcases List.mem_cons.1 hx with rfl | hx
    · by_cases hs : x.1 = none
      · exact .inr (tok_none x _ h1 h2 hs)
      · left
        have hne : x.2 ++ flat ts ≠ [] := by simp [h1]
        have hnv : ¬ ((Lib.decodeL (x.2 ++ flat ts)).1 = 65533 ∧ (Lib.decodeL (x.2 ++ flat ts)).2 = 1) := by
          intro hc
          apply hs
          have := congrArg (·.1) h2
          simp only [headTok, if_pos hc] at this
          exact this.symm
        refine ⟨(Lib.decodeL (x.2 ++ flat ts)).1, ?_, dec_valid _ hne hnv⟩
        have := congrArg (·.1) h2
        simp only [headTok, if_neg hnv] at this
        exact this.symm
    · exact good_mem ts h3 x hx
theorem tk_mem (l : List UInt8) (t : Tok) (h : t ∈ tk l) : (∃ r, t.1 = some r ∧ r ≤ 1114111) ∨ ∃ b, t = (none, [b]) := by
  rcases good_mem _ (good_of_tk l) t h with ⟨r, h1, h2⟩ | h
  · exact .inl ⟨r, h1, by unfold validRune at h2; omega⟩
  · exact .inr h
theorem tokNum_some (t : Tok) (r : Nat) (h : t.1 = some r) : tokNum t = r := by unfold tokNum; rw [h]
theorem tokNum_none (b : UInt8) : tokNum (none, [b]) = 2000000 + b.toNat := rfl
theorem tokNum_lt (l : List UInt8) (t : Tok) (h : t ∈ tk l) : decide (tokNum t < 2000000) = t.1.isSome ∧ tokNum t < 2000256 := by
  rcases tk_mem l t h with ⟨r, h1, h2⟩ | ⟨b, rfl⟩
  · rw [tokNum_some t r h1, h1]; simp; omega
  · rw [tokNum_none]; have := b.toNat_lt; simp; omega
theorem pRunes_nums (l : List UInt8) : pRunes l = ((nums l).filter fun n => decide (n < 2000000)).length := by
  rw [pRunes_tok, nums, List.filter_map, List.length_map]
  congr 1
  apply List.filter_congr
  intro t ht
  exact (tokNum_lt l t ht).1.symm
theorem pStrays_nums (l : List UInt8) : pStrays l = ((nums l).filter fun n => !decide (n < 2000000)).length := by
  rw [pStrays_tok, nums, List.filter_map, List.length_map]
  congr 1
  apply List.filter_congr
  intro t ht
  have := (tokNum_lt l t ht).1
  simp only [Function.comp_apply, this]
  cases t.1 <;> rfl
def nameNums : Nat → List Nat → Bool
  | _, [] => true
  | i, n :: ns => nameRune i n && nameNums (i + 1) ns
theorem nameToks_nums (l : List UInt8) : ∀ (ts : List Tok) (i : Nat), (∀ t ∈ ts, t ∈ tk l) → nameToks i ts = nameNums i (ts.map tokNum)
  | [], i, _ => rfl
  | t :: ts, i, h => by
    rw [List.map_cons]
    unfold nameToks nameNums
    rw [nameToks_nums l ts (i + 1) (fun x hx => h x (by simp [hx]))]
    congr 1
    rcases tk_mem l t (h t (by simp)) with ⟨r, h1, h2⟩ | ⟨b, rfl⟩
    · rw [tokNum_some t r h1]; unfold nameTok; rw [h1]
    · rw [tokNum_none]
      have := b.toNat_lt
      simp [nameTok, nameRune, pSmall, pDigit]
      omega
theorem pRight_nums (l : List UInt8) : pRight l = (nameNums 0 (nums l) && (decide (1 ≤ (nums l).length) && decide ((nums l).length ≤ 12))) := by
  rw [pRight_tok, nameToks_nums l _ 0 (fun _ h => h), nums_len]; rfl
def sayNum (n : Nat) : Bool := !decide (n < 32) && (!(n == 127) && decide (n < 2000000))
theorem pSays_nums (l : List UInt8) : pSays l = ((nums l).all sayNum && decide ((nums l).length ≤ 64)) := by
  rw [pSays_tok, nums_len]
  congr 1
  unfold nums
  rw [List.all_map]
  rw [Bool.eq_iff_iff, List.all_eq_true, List.all_eq_true]
  have key : ∀ t ∈ tk l, sayTok t = sayNum (tokNum t) := fun t ht => by
    rcases tk_mem l t ht with ⟨r, h1, h2⟩ | ⟨b, rfl⟩
    · rw [tokNum_some t r h1]; unfold sayTok sayNum; rw [h1]
      have : decide (r < 2000000) = true := by simp; omega
      simp [this]
    · rw [tokNum_none]
      have := b.toNat_lt
      simp [sayTok, sayNum]
  constructor
  · intro h t ht; show sayNum (tokNum t) = true; rw [← key t ht]; exact h t ht
  · intro h t ht; rw [key t ht]; exact h t ht
theorem nums_at (l : List UInt8) (j : Nat) (hj : j < (nums l).length) : (nums l).getD j 0 < 2000256 := by
  have : (nums l).getD j 0 ∈ nums l := by
    rw [List.getD_eq_getElem?_getD, List.getElem?_eq_getElem hj]; exact List.getElem_mem _
  unfold nums at this
  obtain ⟨t, ht, he⟩ := List.mem_map.1 this
  unfold nums
  rw [← he]; exact (tokNum_lt l t ht).2
end Go.Proofs.YtjfnaedcdmmigaaDoor

namespace Go.Proofs
open Go.Shelf
def Tryd.lays197_ren : Go.Shelf.Ren := ⟨fun | 197 => 119 | 260 => 127 | n => n, fun | 0 => 0 | 3 => 3 | 4 => 4 | 5 => 5 | 9 => 9 | 21 => 21 | 46 => 174 | 105 => 164 | 119 => 176 | 138 => 178 | 139 => 179 | n => n, fun | 3 => 0 | 4 => 1 | n => n⟩
theorem Tryd.lays197 : Go.Proofs.Lays.n197 Tryd.prog Tryd.lays197_ren := {
  mixed := by kernel_rfl
  f197 := Tryd.func119.trans (congrArg some (by kernel_rfl))
  f260 := Tryd.func127.trans (congrArg some (by kernel_rfl))
  t0 := Tryd.underlying0
  a0 := Tryd.isAgg0
  z0 := Tryd.sizeOf0
  v0 := Tryd.zeroValue0
  t3 := Tryd.underlying3
  a3 := Tryd.isAgg3
  z3 := Tryd.sizeOf3
  v3 := Tryd.zeroValue3
  t4 := Tryd.underlying4
  a4 := Tryd.isAgg4
  z4 := Tryd.sizeOf4
  v4 := Tryd.zeroValue4
  t5 := Tryd.underlying5
  a5 := Tryd.isAgg5
  z5 := Tryd.sizeOf5
  v5 := Tryd.zeroValue5
  t9 := Tryd.underlying9
  a9 := Tryd.isAgg9
  z9 := Tryd.sizeOf9
  v9 := Tryd.zeroValue9
  t21 := Tryd.underlying21
  a21 := Tryd.isAgg21
  z21 := Tryd.sizeOf21
  v21 := Tryd.zeroValue21
  t46 := Tryd.underlying174
  a46 := Tryd.isAgg174
  z46 := Tryd.sizeOf174
  v46 := Tryd.zeroValue174
  t105 := Tryd.underlying164
  a105 := Tryd.isAgg164
  z105 := Tryd.sizeOf164
  v105 := Tryd.zeroValue164
  t119 := Tryd.underlying176
  a119 := Tryd.isAgg176
  z119 := Tryd.sizeOf176
  t138 := Tryd.underlying178
  a138 := Tryd.isAgg178
  z138 := Tryd.sizeOf178
  v138 := Tryd.zeroValue178
  t139 := Tryd.underlying179
  a139 := Tryd.isAgg179
  z139 := Tryd.sizeOf179
  v139 := Tryd.zeroValue179
  g3 := by kernel_rfl
  g4 := by kernel_rfl }
namespace YtjfnaedcdmmigaaDoor
open Go.RowKit
set_option linter.unusedSimpArgs false
set_option linter.unusedVariables false

/-- The two tables of package utf8, laid. -/
def UTabs (w : World) : Prop := Lib.Utf8Tabs (Tryd.lays197_ren.g 3) (Tryd.lays197_ren.g 4) w
theorem decodeRune_calls (s : ByteArray) (w : World) (hT : UTabs w) :
    Calls Tryd.prog 119 #[.string s] w fun e w' => e = .returned (.tuple #[.int .i32 (Lib.decodeGo s).1, .int .i64 (Lib.decodeGo s).2]) ∧ Below w.heap.size w w' :=
  Any.utf8_DecodeRuneInString Tryd.lays197 s w hT
theorem place_num (l : List UInt8) (k : Nat) (hk : k < l.length) : pPlace l k (Lib.decodeL (l.drop k)).1 = tokNum (headTok (l.drop k)) := by
  have hne : l.drop k ≠ [] := by simp; omega
  unfold pPlace
  by_cases hs : pStray l k (Lib.decodeL (l.drop k)).1 = true
  · have h := (pStray_iff l k hne).1 hs
    rw [if_pos hs, tokNum_stray _ (Prod.ext h.1 h.2), getD_drop', Nat.add_zero]
  · rw [if_neg hs]
    by_cases hw : (Lib.decodeL (l.drop k)).2 = 1
    · exact (tokNum_rune _ _ _ rfl (.inr fun h => hs ((pStray_iff l k hne).2 ⟨h, hw⟩))).symm
    · exact (tokNum_rune _ _ _ rfl (.inl hw)).symm
theorem decodeGo_list (m : List UInt8) (h : m ≠ []) : Lib.decodeGo (str m) = Lib.decodeL m := by
  have hl : 0 < m.length := List.length_pos_iff.2 h
  unfold Lib.decodeGo
  rw [if_neg (by rw [str_size]; omega), ← Lib.decodeL_drop, str_toList, List.drop_zero]
/-- What the head of a text counts as; -1 of none. -/
def fp (m : List UInt8) : Int := if m = [] then -1 else (tokNum (headTok m) : Int)
theorem fp_some (m : List UInt8) (h : m ≠ []) : fp m = (tokNum (headTok m) : Int) := by rw [fp, if_neg h]
set_option maxHeartbeats 400000 in
theorem firstPlace_calls (m : List UInt8) (hl : m.length ≤ 9223372036854775807) (w : World) (hT : UTabs w) :
    Calls Tryd.prog 101 #[.string (str m)] w fun e w' => e = .returned (.int .i32 (fp m)) ∧ Below w.heap.size w w' := by
  by_cases h0 : m = []
  · subst h0
    rw [show str [] = (⟨#[]⟩ : ByteArray) from rfl, show fp [] = -1 from rfl]
    clear hT
    go_enter Tryd.func101, Tryd.ntmps101
    go_wp2
    go_ret
    exact ⟨rfl, Below.refl _ _⟩
  · have hne : (str m).toList.isEmpty = false := by rw [ByteArray.toList_eq, str_toList]; cases hm : m with | nil => exact absurd hm h0 | cons _ _ => rfl
    have hl0 : 0 < m.length := List.length_pos_iff.2 h0
    have cD := decodeRune_calls (str m) w hT
    rw [decodeGo_list m h0] at cD
    have hpl := place_num m 0 hl0
    rw [List.drop_zero] at hpl
    have cP := fun w => place_calls m 0 (Lib.decodeL m).1 hl0 hl w
    rw [hpl] at cP
    rw [fp_some m h0]
    generalize (Lib.decodeL m).1 = r at *
    generalize (Lib.decodeL m).2 = k at *
    generalize tokNum (headTok m) = N at *
    have CD := hide cD
    have CP := hide cP
    clear cD cP hpl hT h0
    go_enter Tryd.func101, Tryd.ntmps101
    go_wp2_with fail
    refine (unhide CD).mono ?_
    rintro e w1 ⟨rfl, hb1⟩
    go_wp2_with fail
    refine (unhide CP _).mono ?_
    rintro e w2 ⟨rfl, rfl⟩
    go_wp2
    go_ret
    exact ⟨rfl, hb1⟩
/-- Which of two lists of numbers stands first. -/
def ordN : List Nat → List Nat → Int
  | [], [] => 0
  | [], _ :: _ => -1
  | _ :: _, [] => 1
  | x :: xs, y :: ys => if x < y then -1 else if y < x then 1 else ordN xs ys
theorem nums_cons (m : List UInt8) (h : m ≠ []) : nums m = tokNum (headTok m) :: nums (m.drop (Lib.decodeL m).2) := by
  unfold nums; rw [tk_cons m h]; rfl
theorem nums_nil : nums [] = [] := rfl
/-- What counts the same is the same. -/
theorem num_tok (m n : List UInt8) (hm : m ≠ []) (hn : n ≠ []) (h : tokNum (headTok m) = tokNum (headTok n)) : headTok m = headTok n ∧ (Lib.decodeL m).2 = (Lib.decodeL n).2 := by
  have hmm : headTok m ∈ tk m := by rw [tk_cons m hm]; simp
  have hnn : headTok n ∈ tk n := by rw [tk_cons n hn]; simp
  have key : headTok m = headTok n := by
    by_cases sm : (Lib.decodeL m).1 = 65533 ∧ (Lib.decodeL m).2 = 1 <;> by_cases sn : (Lib.decodeL n).1 = 65533 ∧ (Lib.decodeL n).2 = 1
    · rw [tokNum_stray m (Prod.ext sm.1 sm.2), tokNum_stray n (Prod.ext sn.1 sn.2)] at h
      unfold headTok
      rw [if_pos sm, if_pos sn, sm.2, sn.2]
      have e : m.getD 0 0 = n.getD 0 0 := by apply UInt8.toNat.inj; omega
      rw [Lib.takeA m (List.length_pos_iff.2 hm), Lib.takeA n (List.length_pos_iff.2 hn), e]
    · exfalso
      rcases tk_mem n _ hnn with ⟨r, h1, h2⟩ | ⟨b, hb⟩
      · rw [tokNum_stray m (Prod.ext sm.1 sm.2), tokNum_some _ r h1] at h; omega
      · have := congrArg (·.1) hb
        simp only [headTok, if_neg sn] at this
        cases this
    · exfalso
      rcases tk_mem m _ hmm with ⟨r, h1, h2⟩ | ⟨b, hb⟩
      · rw [tokNum_stray n (Prod.ext sn.1 sn.2), tokNum_some _ r h1] at h; omega
      · have := congrArg (·.1) hb
        simp only [headTok, if_neg sm] at this
        cases this
    · have em := Lib.encode_decode m hm sm
      have en := Lib.encode_decode n hn sn
      have hr : (Lib.decodeL m).1 = (Lib.decodeL n).1 := by
        have h1 : tokNum (headTok m) = (Lib.decodeL m).1 := tokNum_some _ _ (by simp only [headTok, if_neg sm])
        have h2 : tokNum (headTok n) = (Lib.decodeL n).1 := tokNum_some _ _ (by simp only [headTok, if_neg sn])
        omega
      unfold headTok
      rw [if_neg sm, if_neg sn, ← em, ← en, hr]
  refine ⟨key, ?_⟩
  have h1 := Lib.decodeL_le m hm
  have h2 := Lib.decodeL_le n hn
  have := congrArg (fun t => t.2.length) key
  simp only [headTok, List.length_take] at this
  omega
end YtjfnaedcdmmigaaDoor
end Go.Proofs

namespace Go.Proofs.YtjfnaedcdmmigaaDoor
open Go.RowKit
set_option linter.unusedSimpArgs false
set_option linter.unusedVariables false

theorem UTabs.below' {w w' : World} (h : UTabs w) (hb : Below w.heap.size w w') : UTabs w' := by
  obtain ⟨h1, h2⟩ := h
  refine ⟨fun c hc => ?_, fun i hi => ?_⟩
  · rw [hb.cell (p := ⟨_, c, none⟩) (block_lt_of_cell (h1 c hc))]; exact h1 c hc
  · exact ⟨by rw [hb.cell (p := ⟨_, _, none⟩) (block_lt_of_cell (h2 i hi).1)]; exact (h2 i hi).1, by rw [hb.cell (p := ⟨_, _, none⟩) (block_lt_of_cell (h2 i hi).2)]; exact (h2 i hi).2⟩
set_option maxHeartbeats 4000000 in
set_option maxRecDepth 100000 in
theorem order_calls (a b : List UInt8) (ha : a.length ≤ 1000000) (hb0 : b.length ≤ 1000000) (w : World) (hT : UTabs w) :
    Calls Tryd.prog 77 #[.string (str a), .string (str b)] w fun e w' => e = .returned (.int .i64 (ordN (nums a) (nums b))) ∧ Below w.heap.size w w' := by
  have hsz : (str a).size = a.length := str_size a
  have hdec : ∀ pos, Utf8.decode (str a) pos = Lib.decodeL (a.drop pos) := fun pos => by rw [← Lib.decodeL_drop, str_toList]
  have hpl := fun k r hk w => place_calls a k r hk (by omega) w
  generalize hs : str a = s at *
  generalize hR : ordN (nums a) (nums b) = R
  have HR := hide hR
  have Hs := hide hs
  have Hsz := hide hsz
  have Hdec := hide hdec
  have Hpl := hide hpl
  have HT := hide hT
  clear hs hsz hR hdec hpl hT
  go_enter Tryd.func77, Tryd.ntmps77
  go_wp2
  go_loopw [] (fun wr => ∃ pos : Nat, wr.heap[w.heap.size]? = some (.stringIter s pos) ∧ Below w.heap.size w wr ∧ pos ≤ a.length ∧ pos ≤ b.length ∧ Hid (R = ordN (nums (a.drop pos)) (nums (b.drop pos)))) (fun wr => a.length - wr.iterPos w.heap.size)
  case atStart =>
    refine ⟨0, ?_, (Below.refl _ w).alloc (Nat.le_refl _) _, by omega, by omega, (unhide HR).symm⟩
    have := World.iter_heap w s 0
    simpa using this
  case round =>
    obtain ⟨pos, hit, hb, hpa, hpb, hX⟩ := hrel
    have hlt : w.heap.size < wr.heap.size := (Array.getElem?_eq_some_iff.1 hit).1
    have hsz := unhide Hsz
    by_cases hp : pos < s.size
    · have hnx : ∀ ty, (Instr.next (.pointer (some ⟨w.heap.size, 0, none⟩)) true ty).run Tryd.prog wr = _ := fun ty => Lib.run_next_any_at wr w.heap.size s pos ty hit hp
      have hd := unhide Hdec pos
      have hap : pos < a.length := by omega
      have hne : a.drop pos ≠ [] := by simp; omega
      have hit2 := Lib.iterAt_heap wr w.heap.size s pos (pos + (Utf8.decode s pos).2) hit
      have hb2 := Lib.below_iterAt hb (k := w.heap.size) (Nat.le_refl _) s (pos + (Utf8.decode s pos).2)
      have cP := fun w => unhide Hpl pos (Utf8.decode s pos).1 hap w
      rw [hd, place_num a pos hap] at cP
      rw [hd] at hit2 hb2 hnx
      have hw1 := Lib.decodeL_width (a.drop pos)
      have hw2 := Lib.decodeL_le (a.drop pos) hne
      rw [List.length_drop] at hw2
      have hX1 := unhide hX
      rw [nums_cons _ hne, List.drop_drop] at hX1
      have hnt := num_tok (a.drop pos) (b.drop pos) hne
      have hfp : b.drop pos ≠ [] → fp (b.drop pos) = (tokNum (headTok (b.drop pos)) : Int) := fp_some _
      have hfp0 : b.drop pos = [] → fp (b.drop pos) = -1 := fun h => by rw [h]; rfl
      have hnb : b.drop pos ≠ [] → nums (b.drop pos) = tokNum (headTok (b.drop pos)) :: nums (b.drop (pos + (Lib.decodeL (b.drop pos)).2)) := fun h => by rw [nums_cons _ h, List.drop_drop]
      have hbw : b.drop pos ≠ [] → pos + (Lib.decodeL (b.drop pos)).2 ≤ b.length := fun h => by
        have h3 := Lib.decodeL_le (b.drop pos) h
        rw [List.length_drop] at h3; omega
      have cF := fun w hT => firstPlace_calls (b.drop pos) (by rw [List.length_drop]; omega) w hT
      have ed := drop_str b pos _ rfl
      have hxb : tokNum (headTok (a.drop pos)) < 2000256 := (tokNum_lt (a.drop pos) _ (by rw [tk_cons _ hne]; simp)).2
      generalize hr : (Lib.decodeL (a.drop pos)).1 = r at *
      generalize hwd : (Lib.decodeL (a.drop pos)).2 = wd at *
      generalize tokNum (headTok (a.drop pos)) = x at *
      generalize hW : wr.iterAt w.heap.size s (pos + wd) = W at *
      have kP : Hid (∀ dd os, Calls Tryd.prog 100 #[.string s, .int .i64 (pos : Int), .int .i32 (r : Int)] (Sort.grow (redrawn W dd) os) fun e w'' => e = .returned (.int .i32 (x : Int)) ∧ ∃ p : Regrown, w'' = Sort.grow (redrawn W p.d) p.os) := fun dd os => Calls.regrown_of ((cP _).mono fun e w' h => ⟨h.1, by rw [h.2]; exact Below.refl _ _⟩)
      have kF : Hid (∀ dd os, Calls Tryd.prog 101 #[.string (str (b.drop pos))] (Sort.grow (redrawn W dd) os) fun e w'' => e = .returned (.int .i32 (fp (b.drop pos))) ∧ ∃ p : Regrown, w'' = Sort.grow (redrawn W p.d) p.os) := fun dd os => Calls.regrown_of (cF _ ((unhide HT).below' (hb2.trans ((below_regrown W dd os).mono hb2.size))))
      have bp : (pos : Int) ≤ (b.length : Int) := by omega
      have Hit2 := hide hit2
      have Hb2 := hide hb2
      clear cP cF hd hit2 hb2 hr hW hne hsz
      by_cases hbe : b.drop pos = []
      · have hy := hfp0 hbe
        rw [hy] at kF
        have hRv : R = 1 := by rw [hX1, hbe, nums_nil]; rfl
        subst hRv
        have d1 : decide ((x : Int) < -1) = false := decide_eq_false (by omega)
        have d2 : decide ((-1 : Int) < (x : Int)) = true := decide_eq_true (by omega)
        clear hX1 hX hnt hfp hfp0 hnb hbw hbe HR hy
        go_wp2_with fail
        refine wp_region_below (show Tryd.prog.follows .mixedOrders = true by kernel_rfl) (by kernel_rfl) ?_
        quiet_step (fail)
        quiet_step (fail)
        quiet_step (fail)
        quiet_step (exact unhide kP _ _)
        quiet_step (fail)
        quiet_step (fail)
        quiet_step (fail)
        quiet_step (exact unhide kF _ _)
        quiet_step (fail)
        quiet_step (fail)
        refine wpQuiet_nil ?_
        intro w3 hb3
        have b3 := (unhide Hb2).trans (hb3.mono (unhide Hb2).size)
        clear kP kF
        go_wp2
        go_ret
        exact ⟨rfl, b3⟩
      · have hy := hfp hbe
        have hnb2 := hnb hbe
        have hnt2 := hnt hbe
        have hbw2 := hbw hbe
        rw [hy] at kF
        rw [hnb2] at hX1
        have hzb : tokNum (headTok (b.drop pos)) < 2000256 := (tokNum_lt (b.drop pos) _ (by rw [tk_cons _ hbe]; simp)).2
        generalize tokNum (headTok (b.drop pos)) = z at *
        by_cases hxz : x < z
        · have hRv : R = -1 := by rw [hX1, ordN, if_pos hxz]
          subst hRv
          have d1 : decide (x < z) = true := by simpa using hxz
          clear hX1 hX hnt hfp hfp0 hnb hbw hbe HR hy hnt2 hnb2
          go_wp2_with fail
          refine wp_region_below (show Tryd.prog.follows .mixedOrders = true by kernel_rfl) (by kernel_rfl) ?_
          quiet_step (fail)
          quiet_step (fail)
          quiet_step (fail)
          quiet_step (exact unhide kP _ _)
          quiet_step (fail)
          quiet_step (fail)
          quiet_step (fail)
          quiet_step (exact unhide kF _ _)
          quiet_step (fail)
          quiet_step (fail)
          refine wpQuiet_nil ?_
          intro w3 hb3
          have b3 := (unhide Hb2).trans (hb3.mono (unhide Hb2).size)
          clear kP kF
          go_wp2
          go_ret
          exact ⟨rfl, b3⟩
        · have d1 : decide (x < z) = false := by simpa using hxz
          by_cases hzx : z < x
          · have hRv : R = 1 := by rw [hX1, ordN, if_neg hxz, if_pos hzx]
            subst hRv
            have d2 : decide (z < x) = true := by simpa using hzx
            clear hX1 hX hnt hfp hfp0 hnb hbw hbe HR hy hnt2 hnb2
            go_wp2_with fail
            refine wp_region_below (show Tryd.prog.follows .mixedOrders = true by kernel_rfl) (by kernel_rfl) ?_
            quiet_step (fail)
            quiet_step (fail)
            quiet_step (fail)
            quiet_step (exact unhide kP _ _)
            quiet_step (fail)
            quiet_step (fail)
            quiet_step (fail)
            quiet_step (exact unhide kF _ _)
            quiet_step (fail)
            quiet_step (fail)
            refine wpQuiet_nil ?_
            intro w3 hb3
            have b3 := (unhide Hb2).trans (hb3.mono (unhide Hb2).size)
            clear kP kF
            go_wp2
            go_ret
            exact ⟨rfl, b3⟩
          · have d2 : decide (z < x) = false := by simpa using hzx
            have hwe := (hnt2 (by omega)).2
            rw [← hwe] at hX1 hbw2
            have hX3 : R = ordN (nums (a.drop (pos + wd))) (nums (b.drop (pos + wd))) := by rw [hX1, ordN, if_neg hxz, if_neg hzx]
            have HX3 := hide hX3
            have hlen2 : pos + wd ≤ a.length ∧ pos + wd ≤ b.length := ⟨by omega, hbw2⟩
            clear hX1 hX3 hX hnt hfp hfp0 hnb hbw hbe HR hy hnt2 hnb2 hwe hwd hbw2 hw2
            go_wp2_with fail
            refine wp_region_below (show Tryd.prog.follows .mixedOrders = true by kernel_rfl) (by kernel_rfl) ?_
            quiet_step (fail)
            quiet_step (fail)
            quiet_step (fail)
            quiet_step (exact unhide kP _ _)
            quiet_step (fail)
            quiet_step (fail)
            quiet_step (fail)
            quiet_step (exact unhide kF _ _)
            quiet_step (fail)
            quiet_step (fail)
            refine wpQuiet_nil ?_
            intro w3 hb3
            have b3 := (unhide Hb2).trans (hb3.mono (unhide Hb2).size)
            have it3 := Below.at hb3 (Array.getElem?_eq_some_iff.1 (unhide Hit2)).1 (unhide Hit2)
            have IT3 := hide it3
            clear kP kF it3
            go_wp2
            refine ⟨⟨pos + wd, unhide IT3, b3, hlen2.1, hlen2.2, HX3⟩, ?_⟩
            simp only [World.iterPos, unhide IT3, hit]; omega
    · have hnx : ∀ ty, (Instr.next (.pointer (some ⟨w.heap.size, 0, none⟩)) true ty).run Tryd.prog wr = _ := fun ty => Lib.run_next_end_at wr w.heap.size s pos ty hit hp
      have hX1 := unhide hX
      have hpe : pos = a.length := by omega
      rw [List.drop_of_length_le (show a.length ≤ pos by omega), nums_nil] at hX1
      have hsl : (str a).size = a.length := str_size a
      by_cases hab : a.length < b.length
      · have hne : b.drop pos ≠ [] := by simp; omega
        have hRv : R = -1 := by rw [hX1, nums_cons _ hne]; rfl
        subst hRv
        have d1 : decide (a.length < b.length) = true := by simpa using hab
        have hss := unhide Hsz
        clear hX1 hX HR hne hpe
        go_wp2
        go_ret
        exact ⟨rfl, hb⟩
      · have hbe : b.drop pos = [] := by rw [List.drop_eq_nil_iff]; omega
        have hRv : R = 0 := by rw [hX1, hbe]; rfl
        subst hRv
        have d1 : decide (a.length < b.length) = false := by simpa using hab
        have hss := unhide Hsz
        clear hX1 hX HR hbe hpe
        go_wp2
        go_ret
        exact ⟨rfl, hb⟩
end Go.Proofs.YtjfnaedcdmmigaaDoor

namespace Go.Proofs.YtjfnaedcdmmigaaDoor
open Go Go.RowKit
set_option linter.unusedSimpArgs false
set_option linter.unusedVariables false

def cmpN (a b : Nat) : Int := if a < b then -1 else if b < a then 1 else 0
def pOrd (o : Nat) (n : List UInt8) (o' : Nat) (n' : List UInt8) : Int := if cmpN o o' = 0 then ordN (nums n) (nums n') else cmpN o o'
def hOrd (o : Nat) (n a : List UInt8) (o' : Nat) (n' a' : List UInt8) : Int := if pOrd o n o' n' = 0 then ordN (nums a) (nums a') else pOrd o n o' n'
theorem nan_calls (a : Nat) (w : World) : Calls Tryd.prog 99 #[.int .u32 (a : Int)] w fun e w' => e = .returned (.bool false) ∧ w' = w := by
  go_enter Tryd.func99, Tryd.ntmps99
  go_wp2
  go_ret
  exact ⟨rfl, rfl⟩
theorem cmp_calls (a b : Nat) (w : World) : Calls Tryd.prog 76 #[.int .u32 (a : Int), .int .u32 (b : Int)] w fun e w' => e = .returned (.int .i64 (cmpN a b)) ∧ w' = w := by
  have h1 := hide fun W => nan_calls a W
  have h2 := hide fun W => nan_calls b W
  have hl : Hid (a < b → cmpN a b = -1) := hide fun h => by unfold cmpN; rw [if_pos h]
  have hg : Hid (¬ a < b → b < a → cmpN a b = 1) := hide fun h h' => by unfold cmpN; rw [if_neg h, if_pos h']
  have he : Hid (¬ a < b → ¬ b < a → cmpN a b = 0) := hide fun h h' => by unfold cmpN; rw [if_neg h, if_neg h']
  generalize cmpN a b = R at *
  go_enter Tryd.func76, Tryd.ntmps76
  go_wp2_with fail
  refine (unhide h1 _).mono ?_
  rintro e w1 ⟨rfl, rfl⟩
  go_wp2_with fail
  refine (unhide h2 _).mono ?_
  rintro e w1 ⟨rfl, rfl⟩
  by_cases e1 : a < b
  · have d1 : decide (a < b) = true := by simpa using e1
    have d1' : (a : Int) < (b : Int) := by omega
    have hr := hide (unhide hl e1)
    go_wp2
    go_ret
    exact ⟨by rw [unhide hr]; rfl, rfl⟩
  · have d1 : decide (a < b) = false := by simpa using e1
    have d1' : ¬ (a : Int) < (b : Int) := by omega
    by_cases e2 : b < a
    · have d2 : decide (b < a) = true := by simpa using e2
      have d2' : (b : Int) < (a : Int) := by omega
      have hr := hide (unhide hg e1 e2)
      go_wp2
      go_ret
      exact ⟨by rw [unhide hr]; rfl, rfl⟩
    · have d2 : decide (b < a) = false := by simpa using e2
      have d2' : ¬ (b : Int) < (a : Int) := by omega
      have hr := hide (unhide he e1 e2)
      go_wp2
      go_ret
      exact ⟨by rw [unhide hr]; rfl, rfl⟩
set_option maxRecDepth 100000 in
theorem tokOrder_calls (o : Nat) (n : List UInt8) (o' : Nat) (n' : List UInt8) (hn : n.length ≤ 1000) (hn' : n'.length ≤ 1000) (w : World) (hT : UTabs w) :
    Calls Tryd.prog 53 #[.agg (tkv o n), .agg (tkv o' n')] w fun e w' => e = .returned (.int .i64 (pOrd o n o' n')) ∧ Below w.heap.size w w' := by
  have hc := hide fun W => cmp_calls o o' W
  have ho := hide fun W t => order_calls n n' (by omega) (by omega) W t
  have b0 := bel2 w (.cells (tkv o n) 79) (.cells (tkv o' n') 79)
  have tX := hide (hT.below' b0)
  have hz : Hid (cmpN o o' = 0 → pOrd o n o' n' = ordN (nums n) (nums n')) := hide fun h => by unfold pOrd; rw [if_pos h]
  have hnz : Hid (cmpN o o' ≠ 0 → pOrd o n o' n' = cmpN o o') := hide fun h => by unfold pOrd; rw [if_neg h]
  generalize pOrd o n o' n' = RR at *
  generalize ordN (nums n) (nums n') = R at *
  generalize cmpN o o' = C at *
  unfold tkv at *
  clear hT
  go_enter Tryd.func53, Tryd.ntmps53
  go_wp2_with fail
  refine (unhide hc _).mono ?_
  rintro e w1 ⟨rfl, rfl⟩
  by_cases e0 : C = 0
  · have d0 : decide (C = 0) = true := by simpa using e0
    have hr := hide (unhide hz e0)
    subst e0
    go_wp2_with fail
    refine (unhide ho _ (unhide tX)).mono ?_
    rintro e w2 ⟨rfl, b2⟩
    go_wp2
    go_ret
    exact ⟨by rw [unhide hr]; rfl, b0.trans (b2.mono b0.size)⟩
  · have d0 : decide (C = 0) = false := by simpa using e0
    have hr := hide (unhide hnz e0)
    go_wp2
    go_ret
    exact ⟨by rw [unhide hr]; rfl, b0⟩
set_option maxRecDepth 100000 in
theorem holOrder_calls (o : Nat) (n a : List UInt8) (o' : Nat) (n' a' : List UInt8) (hn : n.length ≤ 1000) (ha : a.length ≤ 1000) (hn' : n'.length ≤ 1000) (ha' : a'.length ≤ 1000) (w : World) (hT : UTabs w) :
    Calls Tryd.prog 70 #[.agg (hkv o n a), .agg (hkv o' n' a')] w fun e w' => e = .returned (.int .i64 (hOrd o n a o' n' a')) ∧ Below w.heap.size w w' := by
  have hc := hide fun W t => tokOrder_calls o n o' n' hn hn' W t
  have ho := hide fun W t => order_calls a a' (by omega) (by omega) W t
  obtain ⟨q0, q1⟩ := al2 w (.cells (hkv o n a) 81) (.cells (hkv o' n' a') 81)
  have b0 := bel2 w (.cells (hkv o n a) 81) (.cells (hkv o' n' a') 81)
  have tX := hide (hT.below' b0)
  have hz : Hid (pOrd o n o' n' = 0 → hOrd o n a o' n' a' = ordN (nums a) (nums a')) := hide fun h => by unfold hOrd; rw [if_pos h]
  have hnz : Hid (pOrd o n o' n' ≠ 0 → hOrd o n a o' n' a' = pOrd o n o' n') := hide fun h => by unfold hOrd; rw [if_neg h]
  generalize hOrd o n a o' n' a' = RR at *
  generalize ordN (nums a) (nums a') = R at *
  generalize pOrd o n o' n' = C at *
  unfold tkv at hc
  unfold hkv at *
  clear hT
  obtain ⟨X, hX⟩ : ∃ X, (w.alloc (.cells #[Value.int .u32 (o : Int), .string (str n), .string (str a)] 81)).alloc (.cells #[Value.int .u32 (o' : Int), .string (str n'), .string (str a')] 81) = X := ⟨_, rfl⟩
  have HX := hide hX
  have sX : X.heap.size = w.heap.size + 1 + 1 := by rw [← hX]; simp
  rw [hX] at q0 q1 b0 tX
  have r0 : X.rangeAt w.heap.size 0 [Value.int .u32 (o : Int), .string (str n)] := fun i v hv => by
    rw [Nat.zero_add, cell_of_row _ _ _ _ _ _ q0]
    rcases i with _ | _ | i
    · exact hv
    · exact hv
    · simp at hv
  have r1 : X.rangeAt (w.heap.size + 1) 0 [Value.int .u32 (o' : Int), .string (str n')] := fun i v hv => by
    rw [Nat.zero_add, cell_of_row _ _ _ _ _ _ q1]
    rcases i with _ | _ | i
    · exact hv
    · exact hv
    · simp at hv
  clear hX
  go_enter Tryd.func70, Tryd.ntmps70
  go_upto_region 1 with fail
  change Code.wp _ _ _ _ ((w.alloc (.cells #[Value.int .u32 (o : Int), .string (str n), .string (str a)] 81)).alloc (.cells #[Value.int .u32 (o' : Int), .string (str n'), .string (str a')] 81))
  rw [unhide HX]
  go_wp2_with (first
    | (refine wpList_load_mid rfl 79 (.tmp 6) rfl w.heap.size 0 rfl _ _ r0 Tryd.underlying79 rfl (by kernel_rfl) ?_)
    | (refine wpList_load_mid rfl 79 (.tmp 8) rfl (w.heap.size + 1) 0 rfl _ _ r1 Tryd.underlying79 rfl (by kernel_rfl) ?_))
  refine (unhide hc _ (unhide tX)).mono ?_
  rintro e w1 ⟨rfl, b1⟩
  have b01 := b0.trans (b1.mono b0.size)
  have tY := hide ((unhide tX).below' b1)
  have p0 := Below.at b1 (by omega) q0
  have p1 := Below.at b1 (by omega) q1
  have k0 : w1.cell? ⟨w.heap.size, 2, none⟩ = some (.string (str a)) := cell_of_row _ _ _ _ _ _ p0
  have k1 : w1.cell? ⟨w.heap.size + 1, 2, none⟩ = some (.string (str a')) := cell_of_row _ _ _ _ _ _ p1
  clear r0 r1 q0 q1 p0 p1 b1 b0 HX
  by_cases e0 : C = 0
  · have d0 : decide (C = 0) = true := by simpa using e0
    have hr := hide (unhide hz e0)
    subst e0
    go_wp2_with fail
    refine (unhide ho _ (unhide tY)).mono ?_
    rintro e w2 ⟨rfl, b2⟩
    clear k0 k1
    go_wp2
    go_ret
    exact ⟨by rw [unhide hr]; rfl, b01.trans (b2.mono b01.size)⟩
  · have d0 : decide (C = 0) = false := by simpa using e0
    have hr := hide (unhide hnz e0)
    go_wp2
    go_ret
    exact ⟨by rw [unhide hr]; rfl, b01⟩
end Go.Proofs.YtjfnaedcdmmigaaDoor

namespace Go.Proofs.YtjfnaedcdmmigaaDoor
open Go Go.RowKit
set_option linter.unusedSimpArgs false
set_option linter.unusedVariables false

set_option maxRecDepth 100000 in
/-- Whether a token stands behind a key. -/
theorem tokBehind_calls (x : Tkn) (hx : x.ok) (o : Nat) (n : List UInt8) (hn : n.length ≤ 1000) (K : Nat) (w : World) (hT : UTabs w) (hK : w.heap[K]? = some (.cells (tkv o n) 79 (0, 0))) :
    Calls Tryd.prog 52 #[.agg (tokC x).toArray, .pointer (some ⟨K, 0, none⟩)] w fun e w' => e = .returned (.bool (decide (0 < pOrd x.o x.n o n))) ∧ Below w.heap.size w w' := by
  have hk := hide fun W => keyOf_calls x W
  have ho := hide fun W t => tokOrder_calls x.o x.n o n hx.2.1 hn W t
  have hti := sizeT x
  have hik := tkInfo o n
  have q0 := al1 w (.cells (tokC x).toArray 38)
  have b0 : Below w.heap.size w (w.alloc (.cells (tokC x).toArray 38)) := (Below.refl _ _).alloc (Nat.le_refl _) _
  have kk := Below.at b0 (Array.getElem?_eq_some_iff.1 hK).1 hK
  have sX : (w.alloc (.cells (tokC x).toArray 38)).heap.size = w.heap.size + 1 := by simp
  have zK := (Array.getElem?_eq_some_iff.1 hK).1
  have tX := hT.below' b0
  generalize pOrd x.o x.n o n = R at *
  generalize tkv x.o x.n = A at *
  generalize tkv o n = B at *
  generalize tokC x = C at *
  obtain ⟨X, hX⟩ : ∃ X, w.alloc (.cells C.toArray 38) = X := ⟨_, rfl⟩
  have HX := hide hX
  rw [hX] at q0 b0 kk sX tX
  have R0 : Hid (∀ w', (∃ p : Regrown, w' = Sort.grow (redrawn X p.d) p.os) → w'.heap[w.heap.size]? = some (.cells C.toArray 38 (0, 0))) := fun w' ⟨p, hp⟩ => by rw [hp]; exact Below.at (below_regrown X p.d p.os) (by omega) q0
  have R1 : Hid (∀ w', (∃ p : Regrown, w' = Sort.grow (redrawn X p.d) p.os) → w'.heap[K]? = some (.cells B 79 (0, 0))) := fun w' ⟨p, hp⟩ => by rw [hp]; exact Below.at (below_regrown X p.d p.os) (by omega) kk
  have kC := hide fun d os => Calls.regrown_of (w := X) (d := d) (os := os) (unhide hk _)
  have kO := hide fun d os => Calls.regrown_of (w := X) (d := d) (os := os) (unhide ho _ (tX.below' (below_regrown X d os)))
  clear hK hX q0 kk sX zK tX
  go_enter Tryd.func52, Tryd.ntmps52
  go_upto_region 1 with fail
  change Code.wp _ _ _ _ (w.alloc (.cells C.toArray 38))
  rw [unhide HX]
  go_wp2_with fail
  refine wp_region_below mixed (by kernel_rfl) ?_
  refine wpQuiet_load_row rfl 38 (.tmp 2) rfl w.heap.size rfl 38 C.toArray (0, 0) _ (unhide R0) Tryd.underlying38 rfl hti ?_
  quiet_step (exact unhide kC _ _)
  refine wpQuiet_load_row rfl 79 (.tmp 1) rfl K rfl 79 B (0, 0) _ (unhide R1) Tryd.underlying79 rfl hik ?_
  quiet_step (exact unhide kO _ _)
  quiet_step (fail)
  quiet_step (fail)
  refine wpQuiet_nil ?_
  intro w3 b3
  go_wp2
  go_ret
  exact ⟨rfl, b0.trans (b3.mono b0.size)⟩
set_option maxRecDepth 100000 in
/-- Whether a holding stands behind a key. -/
theorem holBehind_calls (x : Hol) (hx : x.ok) (o : Nat) (n a : List UInt8) (hn : n.length ≤ 1000) (ha : a.length ≤ 1000) (K : Nat) (w : World) (hT : UTabs w) (hK : w.heap[K]? = some (.cells (hkv o n a) 81 (0, 0))) :
    Calls Tryd.prog 83 #[.agg (holC x).toArray, .pointer (some ⟨K, 0, none⟩)] w fun e w' => e = .returned (.bool (decide (0 < hOrd x.o x.n x.w o n a))) ∧ Below w.heap.size w w' := by
  have hk := hide fun W => heldKey_calls x W
  have ho := hide fun W t => holOrder_calls x.o x.n x.w o n a hx.2.1 hx.2.2.1 hn ha W t
  have hti := sizeH x
  have hik := hkInfo o n a
  have q0 := al1 w (.cells (holC x).toArray 75)
  have b0 : Below w.heap.size w (w.alloc (.cells (holC x).toArray 75)) := (Below.refl _ _).alloc (Nat.le_refl _) _
  have kk := Below.at b0 (Array.getElem?_eq_some_iff.1 hK).1 hK
  have sX : (w.alloc (.cells (holC x).toArray 75)).heap.size = w.heap.size + 1 := by simp
  have zK := (Array.getElem?_eq_some_iff.1 hK).1
  have tX := hT.below' b0
  generalize hOrd x.o x.n x.w o n a = R at *
  generalize hkv x.o x.n x.w = A at *
  generalize hkv o n a = B at *
  generalize holC x = C at *
  obtain ⟨X, hX⟩ : ∃ X, w.alloc (.cells C.toArray 75) = X := ⟨_, rfl⟩
  have HX := hide hX
  rw [hX] at q0 b0 kk sX tX
  have R0 : Hid (∀ w', (∃ p : Regrown, w' = Sort.grow (redrawn X p.d) p.os) → w'.heap[w.heap.size]? = some (.cells C.toArray 75 (0, 0))) := fun w' ⟨p, hp⟩ => by rw [hp]; exact Below.at (below_regrown X p.d p.os) (by omega) q0
  have R1 : Hid (∀ w', (∃ p : Regrown, w' = Sort.grow (redrawn X p.d) p.os) → w'.heap[K]? = some (.cells B 81 (0, 0))) := fun w' ⟨p, hp⟩ => by rw [hp]; exact Below.at (below_regrown X p.d p.os) (by omega) kk
  have kC := hide fun d os => Calls.regrown_of (w := X) (d := d) (os := os) (unhide hk _)
  have kO := hide fun d os => Calls.regrown_of (w := X) (d := d) (os := os) (unhide ho _ (tX.below' (below_regrown X d os)))
  clear hK hX q0 kk sX zK tX
  go_enter Tryd.func83, Tryd.ntmps83
  go_upto_region 1 with fail
  change Code.wp _ _ _ _ (w.alloc (.cells C.toArray 75))
  rw [unhide HX]
  go_wp2_with fail
  refine wp_region_below mixed (by kernel_rfl) ?_
  refine wpQuiet_load_row rfl 75 (.tmp 2) rfl w.heap.size rfl 75 C.toArray (0, 0) _ (unhide R0) Tryd.underlying75 rfl hti ?_
  quiet_step (exact unhide kC _ _)
  refine wpQuiet_load_row rfl 81 (.tmp 1) rfl K rfl 81 B (0, 0) _ (unhide R1) Tryd.underlying81 rfl hik ?_
  quiet_step (exact unhide kO _ _)
  quiet_step (fail)
  quiet_step (fail)
  refine wpQuiet_nil ?_
  intro w3 b3
  go_wp2
  go_ret
  exact ⟨rfl, b0.trans (b3.mono b0.size)⟩
end Go.Proofs.YtjfnaedcdmmigaaDoor

namespace Go.Proofs.YtjfnaedcdmmigaaDoor
open Go Go.RowKit
set_option linter.unusedSimpArgs false
set_option linter.unusedVariables false

/-- A purse in memory. -/
def PM (w : World) (v : Value) (ts : List Tkn) (hs : List Hol) : Prop := ∃ p1 c1 p2 c2, v = .agg #[.slice p1 ts.length c1, .slice p2 hs.length c2] ∧ EL tokC w p1 ts ∧ EL holC w p2 hs
/-- A purse in memory of the call's own. -/
def PO (w : World) (B : Nat) (v : Value) (ts : List Tkn) (hs : List Hol) : Prop := ∃ v1 v2, v = .agg #[v1, v2] ∧ w.ownsRow B 38 7 v1 ts.length (ts.flatMap tokC) ∧ w.ownsRow B 75 4 v2 hs.length (hs.flatMap holC)
theorem PM.below {w w' : World} {v : Value} {ts : List Tkn} {hs : List Hol} (h : PM w v ts hs) (hb : Below w.heap.size w w') : PM w' v ts hs := by
  obtain ⟨p1, c1, p2, c2, rfl, h1, h2⟩ := h
  exact ⟨p1, c1, p2, c2, rfl, h1.below hb, h2.below hb⟩
theorem PO.below {w w' : World} {B : Nat} {v : Value} {ts : List Tkn} {hs : List Hol} (h : PO w B v ts hs) (hb : Below w.heap.size w w') : PO w' B v ts hs := by
  obtain ⟨v1, v2, rfl, h1, h2⟩ := h
  exact ⟨v1, v2, rfl, vowns_below h1 hb, vowns_below h2 hb⟩
theorem PO.base {w : World} {B C : Nat} {v : Value} {ts : List Tkn} {hs : List Hol} (h : PO w B v ts hs) (hC : C ≤ B) : PO w C v ts hs := by
  obtain ⟨v1, v2, rfl, h1, h2⟩ := h
  exact ⟨v1, v2, rfl, vowns_base h1 hC, vowns_base h2 hC⟩
theorem PO.mem {w : World} {B : Nat} {v : Value} {ts : List Tkn} {hs : List Hol} (h : PO w B v ts hs) : PM w v ts hs := by
  obtain ⟨v1, v2, rfl, h1, h2⟩ := h
  obtain ⟨p1, c1, rfl, e1⟩ := EL_of_owns tokC_len h1
  obtain ⟨p2, c2, rfl, e2⟩ := EL_of_owns holC_len h2
  exact ⟨p1, c1, p2, c2, rfl, e1, e2⟩
/-- A row of the call's own, where another block is written. -/
theorem vowns_other {B s n G : Nat} {w w' : World} {t : TypeId} {v : Value} {xs : List Value} (h : w.ownsRow B t s v n xs) (hk : ∀ k, k ≠ G → w'.heap[k]? = w.heap[k]?) (C : Array Value) (u : TypeId) (hu : u ≠ t) (hG : w.heap[G]? = some (.cells C u (0, 0))) : w'.ownsRow B t s v n xs := by
  obtain ⟨h1, h2⟩ := h
  refine ⟨h1, ?_⟩
  rcases h2 with h2 | ⟨g, cap, cur, rfl, hB, hg, hc, hm, hs, ht⟩
  · exact .inl h2
  · refine .inr ⟨g, cap, cur, rfl, hB, (hk g fun e => ?_).trans hg, hc, hm, hs, ht⟩
    rw [e, hG] at hg
    simp only [Option.some.injEq, Obj.cells.injEq] at hg
    exact hu hg.2.1
theorem PO.other {B G : Nat} {w w' : World} {v : Value} {ts : List Tkn} {hs : List Hol} (h : PO w B v ts hs) (hk : ∀ k, k ≠ G → w'.heap[k]? = w.heap[k]?) (C : Array Value) (u : TypeId) (h1 : u ≠ 38) (h2 : u ≠ 75) (hG : w.heap[G]? = some (.cells C u (0, 0))) : PO w' B v ts hs := by
  obtain ⟨v1, v2, rfl, o1, o2⟩ := h
  exact ⟨v1, v2, rfl, vowns_other o1 hk C u h1 hG, vowns_other o2 hk C u h2 hG⟩
set_option maxHeartbeats 4000000 in
set_option maxRecDepth 100000 in
theorem twin_calls (ts : List Tkn) (hs : List Hol) (hn1 : ts.length ≤ 1000) (hn2 : hs.length ≤ 1000) (v : Value) (w : World) (hP : PM w v ts hs) :
    Calls Tryd.prog 43 #[v] w fun e w' => (∃ v', e = .returned v' ∧ PO w' w.heap.size v' ts hs) ∧ Below w.heap.size w w' := by
  obtain ⟨p1, c1, p2, c2, rfl, hT, hH⟩ := hP
  obtain ⟨q0, q1⟩ := al2 w (.cells #[.slice p1 ts.length c1, .slice p2 hs.length c2] 27) (.cells #[.slice none 0 0, .slice none 0 0] 27)
  have b0 := bel2 w (.cells #[.slice p1 ts.length c1, .slice p2 hs.length c2] 27) (.cells #[.slice none 0 0, .slice none 0 0] 27)
  obtain ⟨X, hX⟩ : ∃ X, (w.alloc (.cells #[.slice p1 ts.length c1, .slice p2 hs.length c2] 27)).alloc (.cells #[.slice none 0 0, .slice none 0 0] 27) = X := ⟨_, rfl⟩
  have HX := hide hX
  have SX : Hid (X.heap.size = w.heap.size + 1 + 1) := hide (by rw [← hX]; simp)
  rw [hX] at q0 q1 b0
  have Q0 := hide q0
  have Q1 := hide q1
  have B0 := hide b0
  have CT := hide fun W (hW : Below (w.heap.size + 1) X W) => cloneT_calls ts hn1 p1 c1 W (VL.below hT (b0.trans (hW.mono (Nat.le_succ _))) (Nat.le_refl _))
  have CH := hide fun W (hW : Below (w.heap.size + 1) X W) => cloneH_calls hs hn2 p2 c2 W (VL.below hH (b0.trans (hW.mono (Nat.le_succ _))) (Nat.le_refl _))
  have fin : Hid (∀ (x1 x2 : Option Addr) (d1 d2 : Nat) (W : World), Below (w.heap.size + 1) X W → W.heap[w.heap.size + 1]? = some (.cells #[.slice none 0 0, .slice none 0 0] 27 (0, 0)) → W.ownsRow w.heap.size 38 7 (.slice x1 ts.length d1) ts.length (ts.flatMap tokC) → W.ownsRow w.heap.size 75 4 (.slice x2 hs.length d2) hs.length (hs.flatMap holC) →
      (PO (W.setRow (w.heap.size + 1) #[.slice x1 ts.length d1, .slice x2 hs.length d2]) w.heap.size (.agg #[.slice x1 ts.length d1, .slice x2 hs.length d2]) ts hs ∧ Below w.heap.size w (W.setRow (w.heap.size + 1) #[.slice x1 ts.length d1, .slice x2 hs.length d2])) ∧ Below (w.heap.size + 1) X (W.setRow (w.heap.size + 1) #[.slice x1 ts.length d1, .slice x2 hs.length d2])) := hide fun x1 x2 d1 d2 W hW p1' o1 o2 => by
    have po : PO W w.heap.size (.agg #[.slice x1 ts.length d1, .slice x2 hs.length d2]) ts hs := ⟨_, _, rfl, o1, o2⟩
    exact ⟨⟨po.other (fun k hk => setRow_other _ _ _ _ hk) _ _ (by decide) (by decide) p1', (b0.trans (hW.mono (Nat.le_succ _))).trans (below_setRow (Below.refl _ _) (by omega) _)⟩, hW.trans (below_setRow (Below.refl _ _) (Nat.le_refl _) _)⟩
  clear hT hH hX q0 q1 b0 hn1 hn2
  go_enter Tryd.func43, Tryd.ntmps43
  go_upto_region 1 with fail
  change Code.wp _ _ _ _ ((w.alloc (.cells #[.slice p1 ts.length c1, .slice p2 hs.length c2] 27)).alloc (.cells #[.slice none 0 0, .slice none 0 0] 27))
  rw [unhide HX]
  go_wp2_with fail
  have hS0 : Below (w.heap.size + 1) X ({ X with drawn := X.drawn + 1 } : World) := ⟨rfl, rfl, rfl, Nat.le_refl _, fun _ _ => rfl⟩
  have rc0 : Hid (∀ W, Below (w.heap.size + 1) X W → W.cell? ⟨w.heap.size, 0, none⟩ = some (.slice p1 ts.length c1)) := hide fun W h => by rw [cell_of_row _ _ _ _ _ _ (Below.at h (Nat.lt_succ_self _) (unhide Q0))]; rfl
  have rc1 : Hid (∀ W, Below (w.heap.size + 1) X W → W.cell? ⟨w.heap.size, 1, none⟩ = some (.slice p2 hs.length c2)) := hide fun W h => by rw [cell_of_row _ _ _ _ _ _ (Below.at h (Nat.lt_succ_self _) (unhide Q0))]; rfl
  refine wp_region_held (S := fun W => Below (w.heap.size + 1) X W) mixed ?_
  obtain ⟨d0, hd0⟩ : ∃ d, { X with drawn := X.drawn + 1 } = d := ⟨_, rfl⟩
  have Q1d : Hid (d0.heap[w.heap.size + 1]? = some (.cells #[.slice none 0 0, .slice none 0 0] 27 (0, 0))) := hide (by rw [← hd0]; exact unhide Q1)
  have zd : Hid (w.heap.size + 1 + 1 ≤ d0.heap.size) := hide (by rw [← hd0]; exact Nat.le_of_eq (unhide SX).symm)
  rw [hd0] at hS0
  rw [hd0]
  clear hd0
  refine wpAnyH_take (i := 0) (v := .pointer (some ⟨w.heap.size, 0, none⟩)) rfl (by kernel_rfl) (by kernel_rfl) (by kernel_rfl) (fun _ _ _ h => h) (.inl ⟨by kernel_rfl, fun W _ => by go_simp⟩) hS0 ?_
  refine wpAnyH_take (i := 1) (v := .slice p1 ts.length c1) rfl (by kernel_rfl) (by kernel_rfl) (by kernel_rfl) (fun _ _ _ h => h) (.inl ⟨rfl, fun W hW => by have c2 := unhide rc0 W hW; go_simp⟩) hS0 ?_
  refine wpAnyH_take (i := 3) (v := .pointer (some ⟨w.heap.size, 1, none⟩)) rfl (by kernel_rfl) (by kernel_rfl) (by kernel_rfl) (fun _ _ _ h => h) (.inl ⟨by kernel_rfl, fun W _ => by go_simp⟩) hS0 ?_
  refine wpAnyH_take (i := 4) (v := .slice p2 hs.length c2) rfl (by kernel_rfl) (by kernel_rfl) (by kernel_rfl) (fun _ _ _ h => h) (.inl ⟨rfl, fun W hW => by have c2 := unhide rc1 W hW; go_simp⟩) hS0 ?_
  have S0 := hide hS0
  clear hS0 rc0 rc1
  refine wpAnyH_one 2 _ (by kernel_rfl) rfl ?_
  · go_wp2_with fail
    refine (unhide CT _ (unhide S0)).mono ?_
    rintro e w2 ⟨⟨v1, rfl, own1⟩, b2⟩
    have z2 := b2.size
    have S2 : Hid (Below (w.heap.size + 1) X w2) := hide ((unhide S0).trans (b2.mono (by have := unhide zd; omega)))
    have P2 := hide (Below.at b2 (by have := unhide zd; omega) (unhide Q1d))
    go_wp2
    refine ⟨unhide S2, ?_⟩
    refine wpAnyH_one 5 _ (by kernel_rfl) rfl ?_
    go_wp2_with fail
    refine (unhide CH _ (unhide S2)).mono ?_
    rintro e w3 ⟨⟨v2, rfl, own2⟩, b3⟩
    have S3 : Hid (Below (w.heap.size + 1) X w3) := hide ((unhide S2).trans (b3.mono (by have := unhide zd; omega)))
    have p1 := Below.at b3 (by have := unhide zd; omega) (unhide P2)
    have own1' := vowns_base (C := w.heap.size) (vowns_below own1 b3) (by have := unhide zd; omega)
    have own2' := vowns_base (C := w.heap.size) own2 (by have := unhide zd; omega)
    obtain ⟨x1, d1, hv1, _⟩ := EL_of_owns tokC_len own1'
    obtain ⟨x2, d2, hv2, _⟩ := EL_of_owns holC_len own2'
    subst hv1
    subst hv2
    have FF := hide (unhide fin x1 x2 d1 d2 w3 (unhide S3) p1 own1' own2')
    clear own1 own2 own1' own2' b2 b3 z2
    go_wp2
    refine ⟨unhide S3, ?_⟩
    refine wpAnyH_take (i := 6) (v := .agg #[.slice x1 ts.length d1, .slice x2 hs.length d2]) rfl (by kernel_rfl) (by kernel_rfl) (by kernel_rfl) (fun _ _ _ h => h) (yields_build rfl 27 #[(0, .tmp 5), (1, .tmp 8)] rfl #[.slice x1 ts.length d1, .slice x2 hs.length d2] (by kernel_rfl)) (unhide S3) ?_
    refine wpAnyH_one 7 _ (by kernel_rfl) rfl ?_
    have r1 := setRow_heap _ _ _ #[.slice x1 ts.length d1, .slice x2 hs.length d2] _ _ p1
    refine wpList_store_row rfl 27 (.tmp 2) (.tmp 9) rfl (w.heap.size + 1) #[.slice x1 ts.length d1, .slice x2 hs.length d2] rfl rfl 27 _ p1 (by kernel_rfl) rfl (by simp [Value.oneCell']) ?_
    go_wp2
    refine ⟨(unhide FF).2, wpAnyH_done (by kernel_rfl) ?_ _⟩
    go_wp2
    exact bodyPost_ret (results_cell_row rfl _ _ (w.heap.size + 1) _ _ _ _ rfl r1 Tryd.underlying27 rfl (by kernel_rfl)) rfl ⟨⟨_, rfl, (unhide FF).1.1⟩, (unhide FF).1.2⟩
end Go.Proofs.YtjfnaedcdmmigaaDoor

namespace Go.Proofs.YtjfnaedcdmmigaaDoor
open Go.RowKit
set_option linter.unusedSimpArgs false
set_option linter.unusedVariables false

theorem wpList_store_newV {P : Program} {ops : Array Oper} {rest : List Oper} {op : Oper} {a : Act} {Q : Exit → Act → World → Prop} (hgd : op.guard = none) (ty : TypeId) (x y : Operand) (ho : op.op = .store ty x y)
    (W0 : World) (Z : Array Value) (t : TypeId) (D : Array Value) (hx : a.eval x = .pointer (some ⟨W0.heap.size, 0, none⟩)) (hy : a.eval y = .agg D)
    (hi : (P.info? ty).map (·.size) = some D.size) (hz : Z.size = D.size) (h1 : D.all (·.oneCell') = true)
    (h : ∀ w', w'.heap[W0.heap.size]? = some (.cells D t (0, 0)) → Below W0.heap.size W0 w' → w'.heap.size = W0.heap.size + 1 → wpList P ops Q rest (a.put op.dst undef) w') :
    wpList P ops Q (op :: rest) a (W0.alloc (.cells Z t)) := by
  refine wpList_store_row hgd ty x y ho W0.heap.size D hx hy t Z (al1 _ _) hi hz h1 ?_
  exact h _ (setRow_heap _ _ _ _ _ _ (al1 W0 (.cells Z t))) (below_setRow ((Below.refl _ _).alloc (Nat.le_refl _) _) (Nat.le_refl _) _) (by rw [setRow_size, World.size_alloc])
end Go.Proofs.YtjfnaedcdmmigaaDoor

namespace Go.Proofs.YtjfnaedcdmmigaaDoor
open Go Go.RowKit
set_option linter.unusedSimpArgs false
set_option linter.unusedVariables false

theorem pIx_find {α : Type} (p : α → Bool) (xs : List α) : (pIx p xs = -1 ∧ xs.find? p = none) ∨ ∃ (j : Nat) (x : α), pIx p xs = (j : Int) ∧ xs[j]? = some x ∧ p x = true ∧ xs.find? p = some x := by
  rcases pIx_cases p xs with ⟨h1, h2⟩ | ⟨j, x, h1, h2, h3, h4⟩
  · exact .inl ⟨h1, List.find?_eq_none.2 fun x hx => by rw [h2 x hx]; simp⟩
  · refine .inr ⟨j, x, h1, h2, h3, ?_⟩
    obtain ⟨hj, he⟩ := List.getElem?_eq_some_iff.1 h2
    refine List.find?_eq_some_iff_getElem.2 ⟨h3, j, hj, he, fun i hi => ?_⟩
    rw [h4 i hi _ (List.getElem?_eq_getElem (by omega))]; rfl
def zTok : Tkn := ⟨0, [], 0, 0, 0, 0, 0⟩
/-- The token of a key; whether there is one. -/
def pKn (ts : List Tkn) (o : Nat) (n : List UInt8) : Option Tkn := ts.find? (isT o n)
theorem tokSz (t : Tkn) : (Tryd.prog.info? 38).map (·.size) = some ((tokC t).toArray).size := by unfold tokC; kernel_rfl
theorem tokOne (t : Tkn) : ((tokC t).toArray).all (·.oneCell') = true := by simp [tokC, Value.oneCell']
theorem builtZ : Tryd.prog.built 38 [] = some (tokC zTok).toArray := by kernel_rfl
set_option maxHeartbeats 1000000 in
set_option maxRecDepth 100000 in
theorem known_calls (ts : List Tkn) (hs : List Hol) (hn1 : ts.length ≤ 1000) (hn2 : hs.length ≤ 1000) (v : Value) (o : Nat) (n : List UInt8) (w : World) (hP : PM w v ts hs) :
    Calls Tryd.prog 15 #[v, .int .u32 (o : Int), .string (str n)] w fun e w' => e = .returned (.tuple #[.agg (tokC ((pKn ts o n).getD zTok)).toArray, .bool (pKn ts o n).isSome]) ∧ Below w.heap.size w w' := by
  obtain ⟨p1, c1, p2, c2, rfl, hT, hH⟩ := hP
  obtain ⟨q0, q1⟩ := al2 w (.cells #[.slice p1 ts.length c1, .slice p2 hs.length c2] 27) (.cells (tokC zTok).toArray 38)
  have b0 := bel2 w (.cells #[.slice p1 ts.length c1, .slice p2 hs.length c2] 27) (.cells (tokC zTok).toArray 38)
  have sX : ((w.alloc (.cells #[.slice p1 ts.length c1, .slice p2 hs.length c2] 27)).alloc (.cells (tokC zTok).toArray 38)).heap.size = w.heap.size + 1 + 1 := by simp
  have CP := hide fun W a b => tokPlace_calls ts hs hn1 hn2 p1 p2 c1 c2 o n W a b
  have zt : tokC zTok = [.int .u32 0, .string (str []), .int .u64 0, .int .u64 0, .int .u64 0, .int .u64 0, .int .u64 0] := rfl
  obtain ⟨X, hX⟩ : ∃ X, (w.alloc (.cells #[.slice p1 ts.length c1, .slice p2 hs.length c2] 27)).alloc (.cells (tokC zTok).toArray 38) = X := ⟨_, rfl⟩
  have HX := hide hX
  rw [hX] at q0 q1 b0 sX
  have hT2 := hT.below b0
  have hH2 := hH.below b0
  have key : ∀ r, pIx (isT o n) ts = r → (r = -1 ∧ pKn ts o n = none) ∨ ∃ (j : Nat) (x : Tkn), r = (j : Int) ∧ ts[j]? = some x ∧ pKn ts o n = some x := fun r hr => by
    rcases pIx_find (isT o n) ts with ⟨h1, h2⟩ | ⟨j, x, h1, h2, h3, h4⟩
    · exact .inl ⟨by rw [← hr, h1], h2⟩
    · exact .inr ⟨j, x, by rw [← hr, h1], h2, h4⟩
  obtain ⟨r, hr⟩ : ∃ r, pIx (isT o n) ts = r := ⟨_, rfl⟩
  have K := hide (key r hr)
  rw [hr] at CP
  generalize pKn ts o n = KN at *
  unfold tkv at CP
  have HT := hide hT2
  have HH := hide hH2
  have HN := hide hn1
  clear key hr hT hH hX hT2 hH2 zt hn2
  go_enter Tryd.func15, Tryd.ntmps15
  go_upto_region 1 with fail
  change Code.wp _ _ _ _ ((w.alloc (.cells #[.slice p1 ts.length c1, .slice p2 hs.length c2] 27)).alloc (.cells (tokC zTok).toArray 38))
  rw [unhide HX]
  go_wp2_with (refine wpList_load_row rfl 27 (.tmp 3) rfl w.heap.size rfl 27 _ (0, 0) _ q0 Tryd.underlying27 rfl (by kernel_rfl) ?_)
  refine (unhide CP _ (unhide HT) (unhide HH)).mono ?_
  rintro e w1 ⟨rfl, b1⟩
  have p0 := Below.at b1 (by omega) q0
  have p1' := Below.at b1 (by omega) q1
  have b01 := b0.trans (b1.mono b0.size)
  have T1 := (unhide HT).below b1
  rcases unhide K with ⟨rfl, rfl⟩ | ⟨j, x, rfl, hx, rfl⟩
  · clear K CP HT HH q0 q1 b1 T1
    go_wp2_with (first
      | (refine wpList_build_two rfl 38 #[] rfl _ builtZ ?_)
      | (refine wpList_store_row rfl 38 (.tmp 6) (.tmp 16) rfl (w.heap.size + 1) (tokC zTok).toArray rfl rfl 38 _ p1' (tokSz _) rfl (tokOne _) ?_))
    exact bodyPost_ret (results_row_tmp rfl _ _ (w.heap.size + 1) _ _ _ _ rfl (setRow_heap _ _ _ _ _ _ p1') Tryd.underlying38 rfl (tokSz _)) rfl ⟨rfl, b01.trans (below_setRow (Below.refl _ _) (by omega) _)⟩
  · obtain ⟨b, off, rfl, hb, hr⟩ := EL.row tokC_len (by decide) T1 hx
    have hjl := (List.getElem?_eq_some_iff.1 hx).1
    have k0 : w1.cell? ⟨w.heap.size, 0, none⟩ = some (.slice (some ⟨b, off, none⟩) ts.length c1) := cell_of_row _ _ _ _ _ _ p0
    have d1 : decide ((j : Int) < 0) = false := by simp
    have d2 : (j : Int) < (ts.length : Int) := by omega
    have d3 : decide (j < ts.length) = true := by simpa using hjl
    have hsz : (Tryd.prog.info? 38).map (·.size) = some (tokC x).length := tokSz x
    have hon := tokOne x
    have hsr : ((tokC zTok).toArray).size = ((tokC x).toArray).size := rfl
    obtain ⟨C, hC⟩ : ∃ C, tokC x = C := ⟨_, rfl⟩
    have HC := hide hC
    rw [hC] at hr hsz hon hsr
    clear K CP HT HH q0 q1 b1 T1 hC hx
    go_wp2_with (first
      | (refine wpList_load_mid rfl 38 (.tmp 20) rfl b (off + j * 7) rfl C _ hr Tryd.underlying38 rfl hsz ?_)
      | (refine wpList_store_row rfl 38 (.tmp 6) (.tmp 21) rfl (w.heap.size + 1) C.toArray rfl rfl 38 _ p1' hsz hsr hon ?_))
    exact bodyPost_ret (results_row_tmp rfl _ _ (w.heap.size + 1) _ _ _ _ rfl (setRow_heap _ _ _ _ _ _ p1') Tryd.underlying38 rfl hsz) rfl ⟨by rw [← unhide HC]; rfl, b01.trans (below_setRow (Below.refl _ _) (by omega) _)⟩
end Go.Proofs.YtjfnaedcdmmigaaDoor

namespace Go.Proofs.YtjfnaedcdmmigaaDoor
open Go Go.RowKit
set_option linter.unusedSimpArgs false
set_option linter.unusedVariables false

/-- How much somebody holds. -/
def pHe (hs : List Hol) (o : Nat) (n a : List UInt8) : Nat := ((hs.find? (isH o n a)).map (·.a)).getD 0
theorem pHe_none {hs : List Hol} {o : Nat} {n a : List UInt8} (h : hs.find? (isH o n a) = none) : pHe hs o n a = 0 := by unfold pHe; rw [h]; rfl
theorem pHe_some {hs : List Hol} {o : Nat} {n a : List UInt8} {x : Hol} (h : hs.find? (isH o n a) = some x) : pHe hs o n a = x.a := by unfold pHe; rw [h]; rfl
set_option maxHeartbeats 1000000 in
set_option maxRecDepth 100000 in
theorem held_calls (ts : List Tkn) (hs : List Hol) (hn1 : ts.length ≤ 1000) (hn2 : hs.length ≤ 1000) (v : Value) (o : Nat) (n a : List UInt8) (w : World) (hP : PM w v ts hs) :
    Calls Tryd.prog 55 #[v, .agg (hkv o n a)] w fun e w' => e = .returned (.int .u64 (pHe hs o n a : Int)) ∧ Below w.heap.size w w' := by
  obtain ⟨p1, c1, p2, c2, rfl, hT, hH⟩ := hP
  obtain ⟨q0, q1⟩ := al2 w (.cells #[.slice p1 ts.length c1, .slice p2 hs.length c2] 27) (.cells (hkv o n a) 81)
  have b0 := bel2 w (.cells #[.slice p1 ts.length c1, .slice p2 hs.length c2] 27) (.cells (hkv o n a) 81)
  have sX : ((w.alloc (.cells #[.slice p1 ts.length c1, .slice p2 hs.length c2] 27)).alloc (.cells (hkv o n a) 81)).heap.size = w.heap.size + 1 + 1 := by simp
  have CP := hide fun W x y => holPlace_calls ts hs hn1 hn2 p1 p2 c1 c2 o n a W x y
  have hik := hkInfo o n a
  obtain ⟨X, hX⟩ : ∃ X, (w.alloc (.cells #[.slice p1 ts.length c1, .slice p2 hs.length c2] 27)).alloc (.cells (hkv o n a) 81) = X := ⟨_, rfl⟩
  have HX := hide hX
  rw [hX] at q0 q1 b0 sX
  have hT2 := hT.below b0
  have hH2 := hH.below b0
  have key : ∀ r, pIx (isH o n a) hs = r → (r = -1 ∧ pHe hs o n a = 0) ∨ ∃ (j : Nat) (x : Hol), r = (j : Int) ∧ hs[j]? = some x ∧ pHe hs o n a = x.a := fun r hr => by
    rcases pIx_find (isH o n a) hs with ⟨h1, h2⟩ | ⟨j, x, h1, h2, h3, h4⟩
    · exact .inl ⟨by rw [← hr, h1], pHe_none h2⟩
    · exact .inr ⟨j, x, by rw [← hr, h1], h2, pHe_some h4⟩
  obtain ⟨r, hr⟩ : ∃ r, pIx (isH o n a) hs = r := ⟨_, rfl⟩
  have K := hide (key r hr)
  rw [hr] at CP
  generalize pHe hs o n a = KN at *
  generalize hkv o n a = HK at *
  have HT := hide hT2
  have HH := hide hH2
  have HN := hide hn2
  clear key hr hT hH hX hT2 hH2 hn1 hn2
  go_enter Tryd.func55, Tryd.ntmps55
  go_upto_region 1 with fail
  change Code.wp _ _ _ _ ((w.alloc (.cells #[.slice p1 ts.length c1, .slice p2 hs.length c2] 27)).alloc (.cells HK 81))
  rw [unhide HX]
  go_wp2_with (first
    | (refine wpList_load_row rfl 27 (.tmp 2) rfl w.heap.size rfl 27 _ (0, 0) _ q0 Tryd.underlying27 rfl (by kernel_rfl) ?_)
    | (refine wpList_load_row rfl 81 (.tmp 3) rfl (w.heap.size + 1) rfl 81 _ (0, 0) _ q1 Tryd.underlying81 rfl hik ?_))
  refine (unhide CP _ (unhide HT) (unhide HH)).mono ?_
  rintro e w1 ⟨rfl, b1⟩
  have p0 := Below.at b1 (by omega) q0
  have b01 := b0.trans (b1.mono b0.size)
  have T1 := (unhide HH).below b1
  rcases unhide K with ⟨rfl, rfl⟩ | ⟨j, x, rfl, hx, rfl⟩
  · clear K CP HT HH q0 q1 b1 T1
    go_wp2
    go_ret
    exact ⟨rfl, b01⟩
  · obtain ⟨b, off, rfl, hb, hr⟩ := EL.row holC_len (by decide) T1 hx
    have hjl := (List.getElem?_eq_some_iff.1 hx).1
    have k0 : w1.cell? ⟨w.heap.size, 1, none⟩ = some (.slice (some ⟨b, off, none⟩) hs.length c2) := cell_of_row _ _ _ _ _ _ p0
    have d1 : decide ((j : Int) < 0) = false := by simp
    have d2 : (j : Int) < (hs.length : Int) := by omega
    have d3 : decide (j < hs.length) = true := by simpa using hjl
    have k3 : w1.cell? ⟨b, off + j * 4 + 3, none⟩ = some (.int .u64 (x.a : Int)) := hr 3 _ rfl
    clear K CP HT HH q0 q1 b1 T1 hx hr p0
    go_wp2
    go_ret
    exact ⟨rfl, b01⟩
set_option maxRecDepth 100000 in
theorem heldN_calls (ts : List Tkn) (hs : List Hol) (hn1 : ts.length ≤ 1000) (hn2 : hs.length ≤ 1000) (v : Value) (o : Nat) (n a : List UInt8) (w : World) (hP : PM w v ts hs) :
    Calls Tryd.prog 27 #[v, .int .u32 (o : Int), .string (str n), .string (str a)] w fun e w' => e = .returned (.int .u64 (pHe hs o n a : Int)) ∧ Below w.heap.size w w' := by
  obtain ⟨p1, c1, p2, c2, rfl, hT, hH⟩ := hP
  have q0 := al1 w (.cells #[.slice p1 ts.length c1, .slice p2 hs.length c2] 27)
  have b0 : Below w.heap.size w (w.alloc (.cells #[.slice p1 ts.length c1, .slice p2 hs.length c2] 27)) := (Below.refl _ _).alloc (Nat.le_refl _) _
  have CP := hide (held_calls ts hs hn1 hn2 _ o n a (w.alloc (.cells #[.slice p1 ts.length c1, .slice p2 hs.length c2] 27)) ⟨p1, c1, p2, c2, rfl, hT.below b0, hH.below b0⟩)
  generalize pHe hs o n a = KN at *
  unfold hkv at CP
  clear hT hH
  go_enter Tryd.func27, Tryd.ntmps27
  go_wp2_with (refine wpList_load_row rfl 27 (.tmp 4) rfl w.heap.size rfl 27 _ (0, 0) _ q0 Tryd.underlying27 rfl (by kernel_rfl) ?_)
  refine (unhide CP).mono ?_
  rintro e w1 ⟨rfl, b1⟩
  clear CP q0
  go_wp2
  go_ret
  exact ⟨rfl, b0.trans (b1.mono b0.size)⟩
end Go.Proofs.YtjfnaedcdmmigaaDoor

namespace Go.Proofs.YtjfnaedcdmmigaaDoor
open Go.RowKit
set_option linter.unusedSimpArgs false
set_option linter.unusedVariables false

/-- Bytes lie in memory from a place on. -/
def Bytes (w : World) (g off : Nat) (l : List UInt8) : Prop := ∀ j, j < l.length → w.cell? ⟨g, off + j, none⟩ = some (.int .u8 ((l.getD j 0).toNat : Int))
theorem Bytes.below {B g off : Nat} {l : List UInt8} {w w' : World} (h : Bytes w g off l) (hb : Below B w w') (hg : g < B) : Bytes w' g off l := fun j hj => by
  rw [hb.cell (p := ⟨g, off + j, none⟩) hg]; exact h j hj

theorem Bytes.take {w : World} {g off : Nat} {l : List UInt8} (h : Bytes w g off l) (n : Nat) : Bytes w g off (l.take n) := fun j hj => by
  have hj' : j < n ∧ j < l.length := by simp at hj; omega
  rw [h j hj'.2]
  simp [hj'.1]
theorem Bytes.drop {w : World} {g off : Nat} {l : List UInt8} (h : Bytes w g off l) (n : Nat) : Bytes w g (off + n) (l.drop n) := fun j hj => by
  have hj' : n + j < l.length := by simp at hj; omega
  rw [show off + n + j = off + (n + j) by omega, h _ hj']
  simp
def bcap (w : World) (l : List UInt8) : Nat := grownCap w l.length 0 5
def bworld (w : World) (l : List UInt8) : World := w.drew.alloc (.cells (bytesRow (str l) (bcap w l)) 5 ((bytesRow (str l) (bcap w l)).size, (bytesRow (str l) (bcap w l)).size + 1))
theorem conv_run (l : List UInt8) (w : World) : (convert 9 167 (.string (str l))).run Tryd.prog w = .ok (.slice (some ⟨w.heap.size, 0, none⟩) l.length (bcap w l)) (bworld w l) := by
  have := run_bytes_of_string (P := Tryd.prog) w 9 167 5 (str l) Tryd.underlying9 Tryd.underlying167 Tryd.underlying5
  rw [str_size] at this
  exact this
theorem bworld_size (w : World) (l : List UInt8) : (bworld w l).heap.size = w.heap.size + 1 := by simp [bworld]
theorem bworld_below {B : Nat} {W w : World} (l : List UInt8) (h : Below B W w) (hB : B ≤ w.heap.size) : Below B W (bworld w l) := (h.drew).alloc hB _
theorem bworld_bytes (w : World) (l : List UInt8) : Bytes (bworld w l) w.heap.size 0 l := fun j hj => by
  have h : (bworld w l).heap[w.heap.size]? = some (.cells (bytesRow (str l) (bcap w l)) 5 ((bytesRow (str l) (bcap w l)).size, (bytesRow (str l) (bcap w l)).size + 1)) := al1 w.drew _
  rw [cell_of_row _ _ _ _ _ _ h, Nat.zero_add, bytesRow_at _ _ _ (by simpa [str] using hj)]
  simp [str, hj]
theorem bcap_ge (w : World) (l : List UInt8) : l.length ≤ bcap w l := grownCap_ge _ _ _ _
theorem bcap_le (w : World) (l : List UInt8) (h : l.length ≤ maxLen) : bcap w l ≤ maxLen := grownCap_le_maxLen _ _ _ _ h
theorem bworld_kept {w w' : World} {l : List UInt8} (hb : Below (bworld w l).heap.size (bworld w l) w') : Hid (Bytes w' w.heap.size 0 l) ∧ w.heap.size < w'.heap.size := by
  have hz := hb.size
  have h1 := bworld_size w l
  exact ⟨(bworld_bytes w l).below hb (by omega), by omega⟩
theorem bworld_kept_drew {w w' : World} {l : List UInt8} (hb : Below (bworld w l).drew.heap.size (bworld w l).drew w') : Hid (Bytes w' w.heap.size 0 l) ∧ w.heap.size < w'.heap.size :=
  bworld_kept (l := l) ⟨hb.os, hb.tape, hb.output, hb.size, hb.block⟩
end Go.Proofs.YtjfnaedcdmmigaaDoor

namespace Go.Proofs.YtjfnaedcdmmigaaDoor
open Go.RowKit
set_option linter.unusedSimpArgs false
set_option linter.unusedVariables false

/-- A list with another one written over it from a place on. -/
def putAt (L : List UInt8) (o : Nat) (D : List UInt8) : List UInt8 := L.take o ++ D ++ L.drop (o + D.length)
theorem putAt_length (L : List UInt8) (o : Nat) (D : List UInt8) (h : o + D.length ≤ L.length) : (putAt L o D).length = L.length := by
  unfold putAt; simp; omega
theorem putAt_zeros (A D : List UInt8) (n o : Nat) (ho : o = A.length) (h : D.length ≤ n) : putAt (A ++ List.replicate n 0) o D = A ++ D ++ List.replicate (n - D.length) 0 := by
  subst ho
  unfold putAt
  rw [List.take_left, ← List.drop_drop, List.drop_left, List.drop_replicate]
theorem setCells_heap (g : Nat) (t : TypeId) : ∀ (vs : List Value) (o : Nat) (C : Array Value) (w : World), w.heap[g]? = some (.cells C t (0, 0)) → o + vs.length ≤ C.size →
    (w.setCells g o vs).heap[g]? = some (.cells (C.toList.take o ++ vs ++ C.toList.drop (o + vs.length)).toArray t (0, 0)) ∧ (∀ k, k ≠ g → (w.setCells g o vs).heap[k]? = w.heap[k]?) ∧ (w.setCells g o vs).heap.size = w.heap.size ∧ (∀ B, B ≤ g → Below B w (w.setCells g o vs))
  | [], o, C, w, hg, h => by
    refine ⟨?_, fun _ _ => rfl, rfl, fun B _ => Below.refl B w⟩
    show w.heap[g]? = _
    rw [hg]
    simp
  | v :: vs, o, C, w, hg, h => by
    have h1 := heap_setCell_same w g o C t v hg
    have hsz : (C.setIfInBounds o v).size = C.size := by simp
    have hlt : o < C.size := by simp at h; omega
    obtain ⟨r1, r2, r3, r4⟩ := setCells_heap g t vs (o + 1) (C.setIfInBounds o v) (w.setCell ⟨g, o, none⟩ v) h1 (by rw [hsz]; simp at h; omega)
    have e : w.setCells g o (v :: vs) = (w.setCell ⟨g, o, none⟩ v).setCells g (o + 1) vs := rfl
    rw [e]
    refine ⟨?_, ?_, ?_, ?_⟩
    · rw [r1]
      congr 2
      have e1 : (C.setIfInBounds o v).toList = C.toList.set o v := by simp
      rw [e1]
      have e2 : C.toList.set o v = C.toList.take o ++ v :: C.toList.drop (o + 1) := List.set_eq_take_append_cons_drop.trans (by simp [hlt])
      rw [e2]
      have e3 : (C.toList.take o).length = o := by simp; omega
      rw [show o + 1 = (C.toList.take o ++ [v]).length by simp; omega, show C.toList.take o ++ v :: C.toList.drop (C.toList.take o ++ [v]).length = (C.toList.take o ++ [v]) ++ C.toList.drop (C.toList.take o ++ [v]).length by simp, List.take_left]
      rw [← List.drop_drop, List.drop_left, List.drop_drop]
      simp only [List.append_assoc, List.cons_append, List.nil_append, List.length_append, List.length_cons, List.length_nil, e3]
      rw [show o + (0 + 1) + vs.length = o + (vs.length + 1) by omega]
    · intro k hk
      rw [r2 k hk]
      exact Below.heap_setCell w ⟨g, o, none⟩ v k hk
    · rw [r3]; simp [World.setCell]
    · intro B hB
      exact ((Below.refl B w).setCell (p := ⟨g, o, none⟩) hB v).trans (r4 B hB)
theorem bc_put (L D : List UInt8) (o : Nat) : ((bc L).toList.take o ++ (bc D).toList ++ (bc L).toList.drop (o + (bc D).toList.length)).toArray = bc (putAt L o D) := by
  unfold bc putAt Lib.byteCells
  simp [List.map_take, List.map_drop]
theorem bc_there (w : World) (g o n : Nat) (L : List UInt8) (t : TypeId) (hg : w.heap[g]? = some (.cells (bc L) t (0, 0))) (h : o + n ≤ L.length) : w.there g o n := by
  intro j hj
  refine ⟨?_, frozen_of_row _ _ _ _ _ hg⟩
  rw [cell_of_row _ _ _ _ _ _ hg, bc_at _ _ (by omega)]; rfl
/-- A store of bytes into the middle of a block of bytes. -/
theorem wpList_store_at {P : Program} {ops : Array Oper} {rest : List Oper} {op : Oper} {a : Act} {w : World} {Q : Exit → Act → World → Prop} (hgd : op.guard = none) (ty : TypeId) (x y : Operand) (ho : op.op = .store ty x y)
    (g o : Nat) (L D : List UInt8) (t : TypeId) (hx : a.eval x = .pointer (some ⟨g, o, none⟩)) (hy : a.eval y = .agg (bc D)) (hg : w.heap[g]? = some (.cells (bc L) t (0, 0))) (hle : o + D.length ≤ L.length)
    (hi : (P.info? ty).map (·.size) = some (bc D).size)
    (h : ∀ w', w'.heap[g]? = some (.cells (bc (putAt L o D)) t (0, 0)) → (∀ k, k ≠ g → w'.heap[k]? = w.heap[k]?) → w'.heap.size = w.heap.size → (∀ B, B ≤ g → Below B w w') → wpList P ops Q rest (a.put op.dst undef) w') :
    wpList P ops Q (op :: rest) a w := by
  refine wpList_store_mid hgd ty x y ho g o (bc D) hx hy (bc_there w g o _ L t hg (by rw [bc_size]; exact hle)) hi (bc_oneCell D) ?_
  obtain ⟨r1, r2, r3, r4⟩ := setCells_heap g t (bc D).toList o (bc L) w hg (by rw [bc_size]; simpa using hle)
  rw [bc_put] at r1
  exact h _ r1 r2 r3 r4
/-- A part of a block of bytes, as a range. -/
theorem bc_range (w : World) (g o n : Nat) (L : List UInt8) (t : TypeId) (hg : w.heap[g]? = some (.cells (bc L) t (0, 0))) : w.rangeAt g o (Lib.byteCells ((L.drop o).take n)) := by
  have := World.rangeAt_of_block hg o n
  have e : ((bc L).extract o (o + n)).toList = Lib.byteCells ((L.drop o).take n) := by
    unfold bc Lib.byteCells
    simp [List.map_take, List.map_drop, List.extract_eq_take_drop]
  rw [e] at this
  exact this
end Go.Proofs.YtjfnaedcdmmigaaDoor

namespace Go.Proofs.YtjfnaedcdmmigaaDoor
open Go Go.RowKit
set_option linter.unusedSimpArgs false
set_option linter.unusedVariables false

theorem zeroCells_one (z : Array Value) : Builtin.zeroCells z 1 = z := by
  apply Array.ext
  · simp [Builtin.zeroCells]
  · intro i h1 h2
    simp [Builtin.zeroCells, Nat.mod_eq_of_lt h2, h2]
/-- clear OF A SLICE OF ONE STRUCT. -/
theorem run_clear_one {P : Program} (w : World) (t e ty : TypeId) (z : Value) (ht : P.underlying t = some (.slice e)) (hv : ∀ w, (zeroValue e).run P w = .ok z w) (cs : List Value) (hz : z.cells.toList = cs) (h1 : ∀ v ∈ cs, v.oneCell' = true) (b o c : Nat)
    (hc : ∀ j, j < cs.length → (w.cell? ⟨b, o + j, none⟩).isSome = true) (hf : ∀ j, j < cs.length → w.frozen? ⟨b, o + j, none⟩ = false) :
    (Builtin.clear_ #[t] ty #[.slice (some ⟨b, o, none⟩) 1 c]).run P w = .ok (.tuple #[]) (w.setCells b o cs) := by
  have hst := run_storeCells_cells (P := P) b o cs 0 w (by simpa using hc) (by simpa using hf) h1
  simp only [Nat.add_zero] at hst
  simp [Builtin.clear_, run_underlying ht, hv, zeroCells_one, hz, hst]
def rowPut (C : Array Value) (o : Nat) (vs : List Value) : Array Value := (C.toList.take o ++ vs ++ C.toList.drop (o + vs.length)).toArray
theorem rowPut_size (C : Array Value) (o : Nat) (vs : List Value) (h : o + vs.length ≤ C.size) : (rowPut C o vs).size = C.size := by
  unfold rowPut; simp; omega
theorem cell_in_row {w : World} {g j : Nat} {t : TypeId} {C : Array Value} (h : w.heap[g]? = some (.cells C t (0, 0))) (hj : j < C.size) : (w.cell? ⟨g, j, none⟩).isSome = true := by
  rw [cell_of_row _ _ _ _ _ _ h, Array.getElem?_eq_getElem hj]; rfl
theorem frozen_in_row {w : World} {g j : Nat} {t : TypeId} {C : Array Value} (h : w.heap[g]? = some (.cells C t (0, 0))) : w.frozen? ⟨g, j, none⟩ = false := frozen_of_row _ _ _ _ _ h
theorem infoH0 : ∃ i, Tryd.prog.info? 75 = some i ∧ i.size = 4 := by
  have h : (Tryd.prog.info? 75).map (·.size) = some 4 := by kernel_rfl
  cases hq : Tryd.prog.info? 75 with
  | none => rw [hq] at h; cases h
  | some i => rw [hq] at h; exact ⟨i, rfl, by simpa using h⟩
theorem zeroH : ∀ w, (zeroValue 75).run Tryd.prog w = .ok (.agg #[.int .u32 0, .string ⟨#[]⟩, .string ⟨#[]⟩, .int .u64 0]) w := Tryd.zeroValue75
/-- What a Delete of one element leaves of a row. -/
theorem del_row (C : Array Value) (L Z : List Value) (k n j cap : Nat) (hk : C.size = cap * k) (hn : n ≤ cap) (hj : j < n) (hL : C.toList.take (n * k) = L) (hZ : Z.length = k) :
    ((rowPut (rowPut C (j * k) (L.drop ((j + 1) * k))) ((n - 1) * k) Z).toList.take ((n - 1) * k)) = L.take (j * k) ++ L.drop ((j + 1) * k) ∧ (rowPut (rowPut C (j * k) (L.drop ((j + 1) * k))) ((n - 1) * k) Z).size = cap * k := by
  have hl : L.length = n * k := by
    rw [← hL, List.length_take, Array.length_toList, hk]
    exact Nat.min_eq_left (Nat.mul_le_mul_right k hn)
  have m1 : (j + 1) * k ≤ n * k := Nat.mul_le_mul_right k hj
  have m2 : (n - 1) * k + k = n * k := by rw [← Nat.succ_mul, show (n - 1).succ = n by omega]
  have m3 : (j + 1) * k = j * k + k := Nat.succ_mul j k
  have m4 : n * k ≤ cap * k := Nat.mul_le_mul_right k hn
  have hd : (L.drop ((j + 1) * k)).length = n * k - (j + 1) * k := by rw [List.length_drop, hl]
  have s1 : (rowPut C (j * k) (L.drop ((j + 1) * k))).size = cap * k := by rw [rowPut_size _ _ _ (by rw [hd, hk]; omega), hk]
  refine ⟨?_, by rw [rowPut_size _ _ _ (by rw [s1, hZ]; omega), s1]⟩
  have hc : C.toList.length = cap * k := by rw [Array.length_toList, hk]
  have e1 : (rowPut C (j * k) (L.drop ((j + 1) * k))).toList = C.toList.take (j * k) ++ L.drop ((j + 1) * k) ++ C.toList.drop (j * k + (L.drop ((j + 1) * k)).length) := rfl
  have e2 : (C.toList.take (j * k) ++ L.drop ((j + 1) * k)).length = (n - 1) * k := by
    rw [List.length_append, hd, List.length_take, hc]; omega
  have e3 : (rowPut C (j * k) (L.drop ((j + 1) * k))).toList.take ((n - 1) * k) = C.toList.take (j * k) ++ L.drop ((j + 1) * k) := by
    rw [e1, ← e2, List.take_left]
  have e4 : (rowPut (rowPut C (j * k) (L.drop ((j + 1) * k))) ((n - 1) * k) Z).toList = (rowPut C (j * k) (L.drop ((j + 1) * k))).toList.take ((n - 1) * k) ++ Z ++ (rowPut C (j * k) (L.drop ((j + 1) * k))).toList.drop ((n - 1) * k + Z.length) := rfl
  rw [e4, e3, List.append_assoc, ← e2, List.take_left]
  congr 1
  rw [← hL, List.take_take, Nat.min_eq_left (by omega)]
theorem flat_erase {α : Type} {enc : α → List Value} {k : Nat} (he : ∀ x, (enc x).length = k) : ∀ (xs : List α) (j : Nat), j < xs.length → (xs.eraseIdx j).flatMap enc = (xs.flatMap enc).take (j * k) ++ (xs.flatMap enc).drop ((j + 1) * k)
  | [], j, h => by simp at h
  | x :: xs, 0, _ => by
    simp only [List.eraseIdx_cons_zero, List.flatMap_cons, Nat.zero_mul, List.take_zero, List.nil_append, Nat.zero_add, Nat.one_mul]
    rw [List.drop_left' (he x)]
  | x :: xs, j + 1, h => by
    have ih := flat_erase he xs j (by simpa using h)
    have hx := he x
    simp only [List.eraseIdx_cons_succ, List.flatMap_cons]
    have t1 : (enc x).take ((j + 1) * k) = enc x := List.take_of_length_le (by rw [hx, Nat.succ_mul]; omega)
    have t2 : (enc x).drop ((j + 1 + 1) * k) = [] := List.drop_of_length_le (by rw [hx, Nat.succ_mul]; omega)
    rw [ih, List.take_append, List.drop_append, hx, t1, t2, show (j + 1) * k - k = j * k by rw [Nat.succ_mul]; omega, show (j + 1 + 1) * k - k = (j + 1) * k by rw [Nat.succ_mul (j + 1)]; omega]
    simp
set_option maxHeartbeats 4000000 in
set_option maxRecDepth 1000000 in
theorem delH_calls (xs : List Hol) (hn : xs.length ≤ 1000) (j : Nat) (hj : j < xs.length) (v : Value) (B : Nat) (w : World) (hown : w.ownsRow B 75 4 v xs.length (xs.flatMap holC)) :
    Calls Tryd.prog 81 #[v, .int .i64 (j : Int), .int .i64 ((j : Int) + 1)] w fun e w' => (∃ v', e = .returned v' ∧ w'.ownsRow B 75 4 v' (xs.eraseIdx j).length ((xs.eraseIdx j).flatMap holC)) ∧ (∀ k, some k ≠ v.ownBlock → w'.heap[k]? = w.heap[k]?) ∧ w'.heap.size = w.heap.size ∧ Below B w w' := by
  obtain ⟨hlL, hcase⟩ := hown
  rcases hcase with ⟨_, h0⟩ | ⟨g, cap, cur, rfl, hBg, hg, hnc, hcm, hcs, htk⟩
  · omega
  obtain ⟨i0, hi0, hz1⟩ := infoH0
  obtain ⟨n, hnn⟩ : ∃ n, xs.length = n := ⟨_, rfl⟩
  have hel : (xs.eraseIdx j).length = n - 1 := by rw [List.length_eraseIdx, if_pos hj, hnn]
  rw [hel, flat_erase holC_len xs j hj]
  have hO := flat_one holC_one xs
  rw [hnn] at hn hj hlL hnc htk ⊢
  generalize xs.flatMap holC = L at *
  clear hel
  have D := del_row cur L [.int .u32 0, .string ⟨#[]⟩, .string ⟨#[]⟩, .int .u64 0] 4 n j cap hcs hnc hj htk rfl
  obtain ⟨news, hnews⟩ : ∃ news, L.drop ((j + 1) * 4) = news := ⟨_, rfl⟩
  rw [hnews] at D ⊢
  have hlen : news.length = (n - (j + 1)) * 4 := by rw [← hnews, List.length_drop, hlL]; omega
  have hgd : w.drew.heap[g]? = some (.cells cur 75 (0, 0)) := hg
  have hszc : j * 4 + news.length ≤ cur.size := by omega
  obtain ⟨r1, o1, z1, u1⟩ := setCells_heap g 75 news (j * 4) cur w.drew hgd hszc
  have e1 : (cur.toList.take (j * 4) ++ news ++ cur.toList.drop (j * 4 + news.length)).toArray = rowPut cur (j * 4) news := rfl
  rw [e1] at r1
  have hs1 : (rowPut cur (j * 4) news).size = cap * 4 := by rw [rowPut_size _ _ _ hszc, hcs]
  obtain ⟨r2, o2, z2, u2⟩ := setCells_heap g 75 [.int .u32 0, .string ⟨#[]⟩, .string ⟨#[]⟩, .int .u64 0] ((n - 1) * 4) (rowPut cur (j * 4) news) (w.drew.setCells g (j * 4) news) r1 (by rw [hs1]; simp; omega)
  have e2 : ((rowPut cur (j * 4) news).toList.take ((n - 1) * 4) ++ [Value.int .u32 0, .string ⟨#[]⟩, .string ⟨#[]⟩, .int .u64 0] ++ (rowPut cur (j * 4) news).toList.drop ((n - 1) * 4 + [Value.int .u32 0, .string ⟨#[]⟩, .string ⟨#[]⟩, .int .u64 0].length)).toArray = rowPut (rowPut cur (j * 4) news) ((n - 1) * 4) [.int .u32 0, .string ⟨#[]⟩, .string ⟨#[]⟩, .int .u64 0] := rfl
  rw [e2] at r2
  obtain ⟨A, hA, hsrc⟩ : ∃ A : Addr, (if cap = j + 1 then some (⟨g, 0, none⟩ : Addr) else some ⟨g, (j + 1) * 4, none⟩) = some A ∧ Hid (∀ t u, news[t]? = some u → w.drew.cell? (A.add t) = some u) := by
    by_cases h : cap = j + 1
    · refine ⟨⟨g, 0, none⟩, by simp [h], fun t u hu => ?_⟩
      have h0 : news.length = 0 := by rw [hlen]; omega
      rw [List.length_eq_zero_iff.1 h0] at hu
      simp at hu
    · refine ⟨⟨g, (j + 1) * 4, none⟩, by simp [h], fun t u hu => ?_⟩
      have ht : t < (n - (j + 1)) * 4 := by
        have := (List.getElem?_eq_some_iff.1 hu).1
        rwa [hlen] at this
      rw [Addr.add_lit, cell_of_row _ _ _ _ _ _ hgd]
      have h1 : (cur.toList.take (n * 4))[(j + 1) * 4 + t]? = L[(j + 1) * 4 + t]? := by rw [htk]
      rw [List.getElem?_take, if_pos (by omega)] at h1
      rw [← hnews, List.getElem?_drop, ← h1] at hu
      simpa using hu
  have s1 : Hid (news.length = (n - (j + 1)) * 4) := hide hlen
  have s2 : Hid (∀ u ∈ news, u.oneCell' = true) := hide fun u hu => hO u (by rw [← hnews] at hu; exact List.mem_of_mem_drop hu)
  have s3 : Hid (∀ t, t < news.length → (w.drew.cell? ⟨g, 0 + j * 4 + t, none⟩).isSome = true ∧ w.drew.frozen? ⟨g, 0 + j * 4 + t, none⟩ = false) := hide fun t ht => by
    rw [Nat.zero_add]
    exact ⟨cell_in_row hgd (by omega), frozen_in_row hgd⟩
  obtain ⟨W1, hW1⟩ : ∃ W1, w.drew.setCells g (j * 4) news = W1 := ⟨_, rfl⟩
  rw [hW1] at r1 o1 z1 u1 r2 o2 z2 u2
  have hcl : ∀ ty, (Builtin.clear_ #[25] ty #[.slice (some ⟨g, (n - 1) * 4, none⟩) 1 (cap - (n - 1))]).run Tryd.prog W1 = .ok (.tuple #[]) (W1.setCells g ((n - 1) * 4) [.int .u32 0, .string ⟨#[]⟩, .string ⟨#[]⟩, .int .u64 0]) := fun ty =>
    run_clear_one W1 _ _ ty _ Tryd.underlying25 zeroH [.int .u32 0, .string ⟨#[]⟩, .string ⟨#[]⟩, .int .u64 0] rfl (by intro v hv; simp at hv; rcases hv with rfl | rfl | rfl | rfl <;> rfl) g ((n - 1) * 4) _ (fun t ht => cell_in_row r1 (by rw [hs1]; simp at ht; omega)) (fun t ht => frozen_in_row r1)
  obtain ⟨W2, hW2⟩ : ∃ W2, W1.setCells g ((n - 1) * 4) [.int .u32 0, .string ⟨#[]⟩, .string ⟨#[]⟩, .int .u64 0] = W2 := ⟨_, rfl⟩
  rw [hW2] at r2 o2 z2 u2 hcl
  have hW : Hid (w.drew.setCells g (0 + j * 4) news = W1) := hide (by rw [Nat.zero_add]; exact hW1)
  have FIN : Hid ((∃ v', (Ending.returned (.slice (some ⟨g, 0, none⟩) (n - 1) cap) : Ending) = .returned v' ∧ W2.ownsRow B 75 4 v' (n - 1) (L.take (j * 4) ++ news)) ∧ (∀ k, some k ≠ (Value.slice (some ⟨g, 0, none⟩) n cap).ownBlock → W2.heap[k]? = w.heap[k]?) ∧ W2.heap.size = w.heap.size ∧ Below B w W2) := hide (by
    refine ⟨⟨_, rfl, by rw [List.length_append, hlen, List.length_take, hlL]; omega, .inr ⟨g, cap, _, rfl, hBg, r2, by omega, hcm, D.2, D.1⟩⟩, fun k hk => ?_, z2.trans z1, ?_⟩
    · have hne : k ≠ g := fun e => hk (by rw [e]; rfl)
      exact (o2 k hne).trans (o1 k hne)
    · exact (show Below B w w.drew from ⟨rfl, rfl, rfl, Nat.le_refl _, fun _ _ => rfl⟩).trans ((u1 B hBg).trans (u2 B hBg)))
  have hic : j ≤ cap := by omega
  have hjc : j + 1 ≤ cap := by omega
  have hin : (j : Int) ≤ (n : Int) := by omega
  have hin2 : (j : Int) + 1 ≤ (n : Int) := by omega
  have hne : ¬ (j : Int) = (j : Int) + 1 := by omega
  have ht1 : ((j : Int) + 1).toNat = j + 1 := by omega
  have hb1 : (0 : Int) ≤ (j : Int) + 1 := by omega
  have hjn : j + (n - (j + 1)) = n - 1 := by omega
  have hcl2 : ∀ ty, (Builtin.clear_ #[25] ty #[.slice (some ⟨g, (j + (n - (j + 1))) * 4, none⟩) (n - (j + (n - (j + 1)))) (cap - (j + (n - (j + 1))))]).run Tryd.prog W1 = .ok (.tuple #[]) W2 := fun ty => by
    rw [hjn, show n - (n - 1) = 1 by omega]; exact hcl ty
  have HJN := hide hjn
  clear hcl hjn
  have mixed := mixed
  clear hW1 hW2 hO r1 o1 z1 u1 r2 o2 z2 u2 D hnews hg hgd hszc e1 e2 hlL htk hcs hs1 hlen hBg
  go_enter Tryd.func81, Tryd.ntmps81
  go_wp2_with fail
  go_region_law_o (refine step_append_room rfl (.tmp 22) (.tmp 25) 25 rfl 75 i0 4 Tryd.underlying25 hi0 hz1 g 0 j cap (by simp [Act.eval, Act.put]) A (n - (j + 1)) (cap - (j + 1)) news (by simp [Act.eval, Act.put]) s1.out hsrc.out s2.out (by omega) s3.out ?_; rw [hW.out])
  go_wp2
  go_ret
  obtain ⟨⟨v', hv, ho⟩, F2⟩ := unhide FIN
  exact ⟨⟨v', (congrArg (fun m => Ending.returned (.slice (some ⟨g, 0, none⟩) m cap)) (unhide HJN)).trans hv, ho⟩, F2⟩
end Go.Proofs.YtjfnaedcdmmigaaDoor

namespace Go.Proofs.YtjfnaedcdmmigaaDoor
open Go Go.RowKit
set_option linter.unusedSimpArgs false
set_option linter.unusedVariables false

theorem run_copy_k {P : Program} (w : World) (dT sT ty elem : TypeId) (s : Nat) (g o dLen dCap : Nat) (a : Addr) (sLen sCap : Nat) (cur : Array Value) (t : TypeId) (cs : List Value) (m : Nat)
    (hu : P.underlying dT = some (.slice elem)) (hs : (P.info? elem).map (·.size) = some s)
    (hg : w.heap[g]? = some (.cells cur t (0, 0))) (hm : Nat.min sLen dLen = m) (hn : cs.length = m * s)
    (hsrc : ∀ j v, cs[j]? = some v → w.cell? (a.add j) = some v) (hfit : o + cs.length ≤ cur.size) (h1 : ∀ v ∈ cs, v.oneCell' = true) :
    (Builtin.copy_ #[dT, sT] ty #[.slice (some ⟨g, o, none⟩) dLen dCap, .slice (some a) sLen sCap]).run P w = .ok (goInt m) (w.setRow g (rowPut cur o cs)) := by
  have hl := run_loadCells_list (P := P) w a cs hsrc
  have hst := run_storeCells_at P g o t cs 0 cur w hg (by simpa using hfit) h1
  cases hq : P.info? elem with
  | none => simp [hq] at hs
  | some i =>
    have hi : i.size = s := by simpa [hq] using hs
    unfold rowPut
    simp [Builtin.copy_, run_underlying hu, Builtin.lenOf, Builtin.firstCells, sizeOf, typeInfo, hq, hi, hm, ← hn, hl, hst]
theorem rowPut_toList (C : Array Value) (o : Nat) (vs : List Value) : (rowPut C o vs).toList = C.toList.take o ++ vs ++ C.toList.drop (o + vs.length) := rfl
/-- Two puts side by side, the left one first. -/
theorem ins_left (C : Array Value) (A X D : List Value) (hC : C.toList.take A.length = A) (hs : A.length + X.length + D.length ≤ C.size) :
    (rowPut (rowPut C A.length X) (A.length + X.length) D).toList.take (A.length + X.length + D.length) = A ++ X ++ D := by
  have e1 : (rowPut C A.length X).toList = A ++ X ++ C.toList.drop (A.length + X.length) := by rw [rowPut_toList, hC]
  rw [rowPut_toList, e1]
  have e2 : (A ++ X ++ C.toList.drop (A.length + X.length)).take (A.length + X.length) = A ++ X := by
    rw [show A.length + X.length = (A ++ X).length by simp, List.take_left]
  rw [e2, show A.length + X.length + D.length = (A ++ X ++ D).length by simp only [List.length_append], List.take_left]
/-- .. the right one first. -/
theorem ins_right (C : Array Value) (A X D : List Value) (hC : C.toList.take A.length = A) (hs : A.length + X.length + D.length ≤ C.size) :
    (rowPut (rowPut C (A.length + X.length) D) A.length X).toList.take (A.length + X.length + D.length) = A ++ X ++ D := by
  have hl : C.toList.length = C.size := rfl
  obtain ⟨Y, hY, hYl⟩ : ∃ Y, C.toList.take (A.length + X.length) = A ++ Y ∧ Y.length = X.length := by
    refine ⟨(C.toList.drop A.length).take X.length, ?_, ?_⟩
    · rw [List.take_add, hC]
    · rw [List.length_take, List.length_drop, hl]; omega
  have e1 : (rowPut C (A.length + X.length) D).toList = A ++ (Y ++ (D ++ C.toList.drop (A.length + X.length + D.length))) := by
    rw [rowPut_toList, hY]; simp only [List.append_assoc]
  rw [rowPut_toList, e1, List.take_left]
  have e2 : (A ++ (Y ++ (D ++ C.toList.drop (A.length + X.length + D.length)))).drop (A.length + X.length) = D ++ C.toList.drop (A.length + X.length + D.length) := by
    rw [← hYl, show A.length + Y.length = (A ++ Y).length by simp, ← List.append_assoc, List.drop_left]
  rw [e2, show A.length + X.length + D.length = (A ++ X ++ D).length by simp only [List.length_append], ← List.append_assoc (A ++ X) D, List.take_left]
theorem flat_insert {α : Type} {enc : α → List Value} {k : Nat} (he : ∀ x, (enc x).length = k) (y : α) : ∀ (xs : List α) (j : Nat), j ≤ xs.length → (xs.insertIdx j y).flatMap enc = (xs.flatMap enc).take (j * k) ++ enc y ++ (xs.flatMap enc).drop (j * k)
  | xs, 0, _ => by simp
  | [], j + 1, h => by simp at h
  | x :: xs, j + 1, h => by
    have ih := flat_insert he y xs j (by simpa using h)
    have hx := he x
    have t1 : (enc x).take ((j + 1) * k) = enc x := List.take_of_length_le (by rw [hx, Nat.succ_mul]; omega)
    have t2 : (enc x).drop ((j + 1) * k) = [] := List.drop_of_length_le (by rw [hx, Nat.succ_mul]; omega)
    simp only [List.insertIdx_succ_cons, List.flatMap_cons]
    rw [ih, List.take_append, List.drop_append, hx, t1, t2, show (j + 1) * k - k = j * k by rw [Nat.succ_mul]; omega]
    simp
theorem shape_row {w : World} {g : Nat} {t : TypeId} {C : Array Value} (h : w.heap[g]? = some (.cells C t (0, 0))) : w.shape? g = some (t, C.size) := by
  unfold World.shape?; rw [h]
theorem zeroCells_size (z : Array Value) (n : Nat) : (Builtin.zeroCells z n).size = n * z.size := by simp [Builtin.zeroCells]
end Go.Proofs.YtjfnaedcdmmigaaDoor
