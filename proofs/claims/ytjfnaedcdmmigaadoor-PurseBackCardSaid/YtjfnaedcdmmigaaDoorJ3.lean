/-
  WHAT THE DOCUMENT'S OWN Count, Right, Says OF LAYER 2 RETURN: what name's own answer.
-/
/-
  WHAT name's firstPlace AND Order RETURN: the order of the lists of what runes and strays count as.
-/
/-
  WHAT name's Order RETURNS.
-/
/-
  THE ORDER OF KEYS.
-/
/-
  WHETHER A TOKEN, A HOLDING STANDS BEHIND A KEY.
-/
/-
  A PURSE IN MEMORY; Twin.
-/
/-
  A ROW STORED INTO A BLOCK THAT WAS JUST MADE: the world behind it is a letter of which all is known. Over whatever program.
-/
/-
  Known; Held.
-/
/-
  A PART OF A ROW LOADED INSIDE A REGION THAT DRAWS ITS ORDER, as a step of the quiet walk. Over whatever program.
-/
/-
  rightTokens.
-/
/-
  How much somebody holds.
-/
/-
  BYTES IN MEMORY FROM A PLACE ON; '[]byte(s)' UNDER A NAME OF ITS OWN: the world behind it, its capacity, and what is known of them.
-/
/-
  BYTES STORED INTO THE MIDDLE OF A BLOCK OF BYTES; a part of an array's value.
-/
import Derived.Test.YtjfnaedcdmmigaaDoorJ2
import Derived.Test.YtjfnaedcdmmigaaDoorJ0
import Derived.Shelf.Unicode.DecodeAny
import Derived.Deep.QuietTactic
import Derived.BigQuiet
import Derived.Deep.RegionHeld3
import Derived.Laws.Rows
import Derived.Deep.MidRow
import Derived.Laws.StructEq
import Derived.Test.YtjfnaedcdmmigaaDoorJ1
import Derived.Laws.IdiomStrings
namespace Go.Proofs.YtjfnaedcdmmigaaDoor
open Go.RowKit
set_option linter.unusedSimpArgs false
set_option linter.unusedVariables false

theorem good_mem : ∀ ts : List Tok, Good ts → ∀ t ∈ ts, (∃ r, t.1 = some r ∧ validRune r) ∨ ∃ b, t = (none, [b])
  | [], _, t, h => by cases h
  | t :: ts, ⟨h1, h2, h3⟩, x, hx => by
    rcases List.mem_cons.1 hx with rfl | hx
    · by_cases hs : x.1 = none
      · exact .inr (tok_none x _ h1 h2 hs)
      · left
        have hne : x.2 ++ flat ts ≠ [] := by simp [h1]
        have hnv : ¬ ((Lib.decodeL (x.2 ++ flat ts)).1 = 65533 ∧ (Lib.decodeL (x.2 ++ flat ts)).2 = 1) := by
          intro hc
          apply hs
          have := congrArg (·.1) h2
          simp only [headTok, if_pos hc] at this
          exact this.symm
        refine ⟨(Lib.decodeL (x.2 ++ flat ts)).1, ?_, dec_valid _ hne hnv⟩
        have := congrArg (·.1) h2
        simp only [headTok, if_neg hnv] at this
        exact this.symm
    · exact good_mem ts h3 x hx
theorem tk_mem (l : List UInt8) (t : Tok) (h : t ∈ tk l) : (∃ r, t.1 = some r ∧ r ≤ 1114111) ∨ ∃ b, t = (none, [b]) := by
  rcases good_mem _ (good_of_tk l) t h with ⟨r, h1, h2⟩ | h
  · exact .inl ⟨r, h1, by unfold validRune at h2; omega⟩
  · exact .inr h
theorem tokNum_some (t : Tok) (r : Nat) (h : t.1 = some r) : tokNum t = r := by unfold tokNum; rw [h]
theorem tokNum_none (b : UInt8) : tokNum (none, [b]) = 2000000 + b.toNat := rfl
theorem tokNum_lt (l : List UInt8) (t : Tok) (h : t ∈ tk l) : decide (tokNum t < 2000000) = t.1.isSome ∧ tokNum t < 2000256 := by
  rcases tk_mem l t h with ⟨r, h1, h2⟩ | ⟨b, rfl⟩
  · rw [tokNum_some t r h1, h1]; simp; omega
  · rw [tokNum_none]; have := b.toNat_lt; simp; omega
theorem pRunes_nums (l : List UInt8) : pRunes l = ((nums l).filter fun n => decide (n < 2000000)).length := by
  rw [pRunes_tok, nums, List.filter_map, List.length_map]
  congr 1
  apply List.filter_congr
  intro t ht
  exact (tokNum_lt l t ht).1.symm
theorem pStrays_nums (l : List UInt8) : pStrays l = ((nums l).filter fun n => !decide (n < 2000000)).length := by
  rw [pStrays_tok, nums, List.filter_map, List.length_map]
  congr 1
  apply List.filter_congr
  intro t ht
  have := (tokNum_lt l t ht).1
  simp only [Function.comp_apply, this]
  cases t.1 <;> rfl
def nameNums : Nat → List Nat → Bool
  | _, [] => true
  | i, n :: ns => nameRune i n && nameNums (i + 1) ns
theorem nameToks_nums (l : List UInt8) : ∀ (ts : List Tok) (i : Nat), (∀ t ∈ ts, t ∈ tk l) → nameToks i ts = nameNums i (ts.map tokNum)
  | [], i, _ => rfl
  | t :: ts, i, h => by
    rw [List.map_cons]
    unfold nameToks nameNums
    rw [nameToks_nums l ts (i + 1) (fun x hx => h x (by simp [hx]))]
    congr 1
    rcases tk_mem l t (h t (by simp)) with ⟨r, h1, h2⟩ | ⟨b, rfl⟩
    · rw [tokNum_some t r h1]; unfold nameTok; rw [h1]
    · rw [tokNum_none]
      have := b.toNat_lt
      simp [nameTok, nameRune, pSmall, pDigit]
      omega
theorem pRight_nums (l : List UInt8) : pRight l = (nameNums 0 (nums l) && (decide (1 ≤ (nums l).length) && decide ((nums l).length ≤ 12))) := by
  rw [pRight_tok, nameToks_nums l _ 0 (fun _ h => h), nums_len]; rfl
def sayNum (n : Nat) : Bool := !decide (n < 32) && (!(n == 127) && decide (n < 2000000))
theorem pSays_nums (l : List UInt8) : pSays l = ((nums l).all sayNum && decide ((nums l).length ≤ 64)) := by
  rw [pSays_tok, nums_len]
  congr 1
  unfold nums
  rw [List.all_map]
  rw [Bool.eq_iff_iff, List.all_eq_true, List.all_eq_true]
  have key : ∀ t ∈ tk l, sayTok t = sayNum (tokNum t) := fun t ht => by
    rcases tk_mem l t ht with ⟨r, h1, h2⟩ | ⟨b, rfl⟩
    · rw [tokNum_some t r h1]; unfold sayTok sayNum; rw [h1]
      have : decide (r < 2000000) = true := by simp; omega
      simp [this]
    · rw [tokNum_none]
      have := b.toNat_lt
      simp [sayTok, sayNum]
  constructor
  · intro h t ht; show sayNum (tokNum t) = true; rw [← key t ht]; exact h t ht
  · intro h t ht; rw [key t ht]; exact h t ht
theorem nums_at (l : List UInt8) (j : Nat) (hj : j < (nums l).length) : (nums l).getD j 0 < 2000256 := by
  have : (nums l).getD j 0 ∈ nums l := by
    rw [List.getD_eq_getElem?_getD, List.getElem?_eq_getElem hj]; exact List.getElem_mem _
  unfold nums at this
  obtain ⟨t, ht, he⟩ := List.mem_map.1 this
  unfold nums
  rw [← he]; exact (tokNum_lt l t ht).2
end Go.Proofs.YtjfnaedcdmmigaaDoor

namespace Go.Proofs
open Go.Shelf
def Tryd.lays197_ren : Go.Shelf.Ren := ⟨fun | 197 => 119 | 260 => 127 | n => n, fun | 0 => 0 | 3 => 3 | 4 => 4 | 5 => 5 | 9 => 9 | 21 => 21 | 46 => 174 | 105 => 164 | 119 => 176 | 138 => 178 | 139 => 179 | n => n, fun | 3 => 0 | 4 => 1 | n => n⟩
theorem Tryd.lays197 : Go.Proofs.Lays.n197 Tryd.prog Tryd.lays197_ren := {
  mixed := by kernel_rfl
  f197 := Tryd.func119.trans (congrArg some (by kernel_rfl))
  f260 := Tryd.func127.trans (congrArg some (by kernel_rfl))
  t0 := Tryd.underlying0
  a0 := Tryd.isAgg0
  z0 := Tryd.sizeOf0
  v0 := Tryd.zeroValue0
  t3 := Tryd.underlying3
  a3 := Tryd.isAgg3
  z3 := Tryd.sizeOf3
  v3 := Tryd.zeroValue3
  t4 := Tryd.underlying4
  a4 := Tryd.isAgg4
  z4 := Tryd.sizeOf4
  v4 := Tryd.zeroValue4
  t5 := Tryd.underlying5
  a5 := Tryd.isAgg5
  z5 := Tryd.sizeOf5
  v5 := Tryd.zeroValue5
  t9 := Tryd.underlying9
  a9 := Tryd.isAgg9
  z9 := Tryd.sizeOf9
  v9 := Tryd.zeroValue9
  t21 := Tryd.underlying21
  a21 := Tryd.isAgg21
  z21 := Tryd.sizeOf21
  v21 := Tryd.zeroValue21
  t46 := Tryd.underlying174
  a46 := Tryd.isAgg174
  z46 := Tryd.sizeOf174
  v46 := Tryd.zeroValue174
  t105 := Tryd.underlying164
  a105 := Tryd.isAgg164
  z105 := Tryd.sizeOf164
  v105 := Tryd.zeroValue164
  t119 := Tryd.underlying176
  a119 := Tryd.isAgg176
  z119 := Tryd.sizeOf176
  t138 := Tryd.underlying178
  a138 := Tryd.isAgg178
  z138 := Tryd.sizeOf178
  v138 := Tryd.zeroValue178
  t139 := Tryd.underlying179
  a139 := Tryd.isAgg179
  z139 := Tryd.sizeOf179
  v139 := Tryd.zeroValue179
  g3 := by kernel_rfl
  g4 := by kernel_rfl }
namespace YtjfnaedcdmmigaaDoor
open Go.RowKit
set_option linter.unusedSimpArgs false
set_option linter.unusedVariables false

/-- The two tables of package utf8, laid. -/
def UTabs (w : World) : Prop := Lib.Utf8Tabs (Tryd.lays197_ren.g 3) (Tryd.lays197_ren.g 4) w
theorem decodeRune_calls (s : ByteArray) (w : World) (hT : UTabs w) :
    Calls Tryd.prog 119 #[.string s] w fun e w' => e = .returned (.tuple #[.int .i32 (Lib.decodeGo s).1, .int .i64 (Lib.decodeGo s).2]) ∧ Below w.heap.size w w' :=
  Any.utf8_DecodeRuneInString Tryd.lays197 s w hT
theorem place_num (l : List UInt8) (k : Nat) (hk : k < l.length) : pPlace l k (Lib.decodeL (l.drop k)).1 = tokNum (headTok (l.drop k)) := by
  have hne : l.drop k ≠ [] := by simp; omega
  unfold pPlace
  by_cases hs : pStray l k (Lib.decodeL (l.drop k)).1 = true
  · have h := (pStray_iff l k hne).1 hs
    rw [if_pos hs, tokNum_stray _ (Prod.ext h.1 h.2), getD_drop', Nat.add_zero]
  · rw [if_neg hs]
    by_cases hw : (Lib.decodeL (l.drop k)).2 = 1
    · exact (tokNum_rune _ _ _ rfl (.inr fun h => hs ((pStray_iff l k hne).2 ⟨h, hw⟩))).symm
    · exact (tokNum_rune _ _ _ rfl (.inl hw)).symm
theorem decodeGo_list (m : List UInt8) (h : m ≠ []) : Lib.decodeGo (str m) = Lib.decodeL m := by
  have hl : 0 < m.length := List.length_pos_iff.2 h
  unfold Lib.decodeGo
  rw [if_neg (by rw [str_size]; omega), ← Lib.decodeL_drop, str_toList, List.drop_zero]
/-- What the head of a text counts as; -1 of none. -/
def fp (m : List UInt8) : Int := if m = [] then -1 else (tokNum (headTok m) : Int)
theorem fp_some (m : List UInt8) (h : m ≠ []) : fp m = (tokNum (headTok m) : Int) := by rw [fp, if_neg h]
set_option maxHeartbeats 400000 in
theorem firstPlace_calls (m : List UInt8) (hl : m.length ≤ 9223372036854775807) (w : World) (hT : UTabs w) :
    Calls Tryd.prog 101 #[.string (str m)] w fun e w' => e = .returned (.int .i32 (fp m)) ∧ Below w.heap.size w w' := by
  by_cases h0 : m = []
  · subst h0
    rw [show str [] = (⟨#[]⟩ : ByteArray) from rfl, show fp [] = -1 from rfl]
    clear hT
    go_enter Tryd.func101, Tryd.ntmps101
    go_wp2
    go_ret
    exact ⟨rfl, Below.refl _ _⟩
  · have hne : (str m).toList.isEmpty = false := by rw [ByteArray.toList_eq, str_toList]; cases hm : m with | nil => exact absurd hm h0 | cons _ _ => rfl
    have hl0 : 0 < m.length := List.length_pos_iff.2 h0
    have cD := decodeRune_calls (str m) w hT
    rw [decodeGo_list m h0] at cD
    have hpl := place_num m 0 hl0
    rw [List.drop_zero] at hpl
    have cP := fun w => place_calls m 0 (Lib.decodeL m).1 hl0 hl w
    rw [hpl] at cP
    rw [fp_some m h0]
    generalize (Lib.decodeL m).1 = r at *
    generalize (Lib.decodeL m).2 = k at *
    generalize tokNum (headTok m) = N at *
    have CD := hide cD
    have CP := hide cP
    clear cD cP hpl hT h0
    go_enter Tryd.func101, Tryd.ntmps101
    go_wp2_with fail
    refine (unhide CD).mono ?_
    rintro e w1 ⟨rfl, hb1⟩
    go_wp2_with fail
    refine (unhide CP _).mono ?_
    rintro e w2 ⟨rfl, rfl⟩
    go_wp2
    go_ret
    exact ⟨rfl, hb1⟩
/-- Which of two lists of numbers stands first. -/
def ordN : List Nat → List Nat → Int
  | [], [] => 0
  | [], _ :: _ => -1
  | _ :: _, [] => 1
  | x :: xs, y :: ys => if x < y then -1 else if y < x then 1 else ordN xs ys
theorem nums_cons (m : List UInt8) (h : m ≠ []) : nums m = tokNum (headTok m) :: nums (m.drop (Lib.decodeL m).2) := by
  unfold nums; rw [tk_cons m h]; rfl
theorem nums_nil : nums [] = [] := rfl
/-- What counts the same is the same. -/
theorem num_tok (m n : List UInt8) (hm : m ≠ []) (hn : n ≠ []) (h : tokNum (headTok m) = tokNum (headTok n)) : headTok m = headTok n ∧ (Lib.decodeL m).2 = (Lib.decodeL n).2 := by
  have hmm : headTok m ∈ tk m := by rw [tk_cons m hm]; simp
  have hnn : headTok n ∈ tk n := by rw [tk_cons n hn]; simp
  have key : headTok m = headTok n := by
    by_cases sm : (Lib.decodeL m).1 = 65533 ∧ (Lib.decodeL m).2 = 1 <;> by_cases sn : (Lib.decodeL n).1 = 65533 ∧ (Lib.decodeL n).2 = 1
    · rw [tokNum_stray m (Prod.ext sm.1 sm.2), tokNum_stray n (Prod.ext sn.1 sn.2)] at h
      unfold headTok
      rw [if_pos sm, if_pos sn, sm.2, sn.2]
      have e : m.getD 0 0 = n.getD 0 0 := by apply UInt8.toNat.inj; omega
      rw [Lib.takeA m (List.length_pos_iff.2 hm), Lib.takeA n (List.length_pos_iff.2 hn), e]
    · exfalso
      rcases tk_mem n _ hnn with ⟨r, h1, h2⟩ | ⟨b, hb⟩
      · rw [tokNum_stray m (Prod.ext sm.1 sm.2), tokNum_some _ r h1] at h; omega
      · have := congrArg (·.1) hb
        simp only [headTok, if_neg sn] at this
        cases this
    · exfalso
      rcases tk_mem m _ hmm with ⟨r, h1, h2⟩ | ⟨b, hb⟩
      · rw [tokNum_stray n (Prod.ext sn.1 sn.2), tokNum_some _ r h1] at h; omega
      · have := congrArg (·.1) hb
        simp only [headTok, if_neg sm] at this
        cases this
    · have em := Lib.encode_decode m hm sm
      have en := Lib.encode_decode n hn sn
      have hr : (Lib.decodeL m).1 = (Lib.decodeL n).1 := by
        have h1 : tokNum (headTok m) = (Lib.decodeL m).1 := tokNum_some _ _ (by simp only [headTok, if_neg sm])
        have h2 : tokNum (headTok n) = (Lib.decodeL n).1 := tokNum_some _ _ (by simp only [headTok, if_neg sn])
        omega
      unfold headTok
      rw [if_neg sm, if_neg sn, ← em, ← en, hr]
  refine ⟨key, ?_⟩
  have h1 := Lib.decodeL_le m hm
  have h2 := Lib.decodeL_le n hn
  have := congrArg (fun t => t.2.length) key
  simp only [headTok, List.length_take] at this
  omega
end YtjfnaedcdmmigaaDoor
end Go.Proofs

namespace Go.Proofs.YtjfnaedcdmmigaaDoor
open Go.RowKit
set_option linter.unusedSimpArgs false
set_option linter.unusedVariables false

theorem UTabs.below' {w w' : World} (h : UTabs w) (hb : Below w.heap.size w w') : UTabs w' := by
  obtain ⟨h1, h2⟩ := h
  refine ⟨fun c hc => ?_, fun i hi => ?_⟩
  · rw [hb.cell (p := ⟨_, c, none⟩) (block_lt_of_cell (h1 c hc))]; exact h1 c hc
  · exact ⟨by rw [hb.cell (p := ⟨_, _, none⟩) (block_lt_of_cell (h2 i hi).1)]; exact (h2 i hi).1, by rw [hb.cell (p := ⟨_, _, none⟩) (block_lt_of_cell (h2 i hi).2)]; exact (h2 i hi).2⟩
set_option maxHeartbeats 4000000 in
set_option maxRecDepth 100000 in
theorem order_calls (a b : List UInt8) (ha : a.length ≤ 1000000) (hb0 : b.length ≤ 1000000) (w : World) (hT : UTabs w) :
    Calls Tryd.prog 77 #[.string (str a), .string (str b)] w fun e w' => e = .returned (.int .i64 (ordN (nums a) (nums b))) ∧ Below w.heap.size w w' := by
  have hsz : (str a).size = a.length := str_size a
  have hdec : ∀ pos, Utf8.decode (str a) pos = Lib.decodeL (a.drop pos) := fun pos => by rw [← Lib.decodeL_drop, str_toList]
  have hpl := fun k r hk w => place_calls a k r hk (by omega) w
  generalize hs : str a = s at *
  generalize hR : ordN (nums a) (nums b) = R
  have HR := hide hR
  have Hs := hide hs
  have Hsz := hide hsz
  have Hdec := hide hdec
  have Hpl := hide hpl
  have HT := hide hT
  clear hs hsz hR hdec hpl hT
  go_enter Tryd.func77, Tryd.ntmps77
  go_wp2
  go_loopw [] (fun wr => ∃ pos : Nat, wr.heap[w.heap.size]? = some (.stringIter s pos) ∧ Below w.heap.size w wr ∧ pos ≤ a.length ∧ pos ≤ b.length ∧ Hid (R = ordN (nums (a.drop pos)) (nums (b.drop pos)))) (fun wr => a.length - wr.iterPos w.heap.size)
  case atStart =>
    refine ⟨0, ?_, (Below.refl _ w).alloc (Nat.le_refl _) _, by omega, by omega, (unhide HR).symm⟩
    have := World.iter_heap w s 0
    simpa using this
  case round =>
    obtain ⟨pos, hit, hb, hpa, hpb, hX⟩ := hrel
    have hlt : w.heap.size < wr.heap.size := (Array.getElem?_eq_some_iff.1 hit).1
    have hsz := unhide Hsz
    by_cases hp : pos < s.size
    · have hnx : ∀ ty, (Instr.next (.pointer (some ⟨w.heap.size, 0, none⟩)) true ty).run Tryd.prog wr = _ := fun ty => Lib.run_next_any_at wr w.heap.size s pos ty hit hp
      have hd := unhide Hdec pos
      have hap : pos < a.length := by omega
      have hne : a.drop pos ≠ [] := by simp; omega
      have hit2 := Lib.iterAt_heap wr w.heap.size s pos (pos + (Utf8.decode s pos).2) hit
      have hb2 := Lib.below_iterAt hb (k := w.heap.size) (Nat.le_refl _) s (pos + (Utf8.decode s pos).2)
      have cP := fun w => unhide Hpl pos (Utf8.decode s pos).1 hap w
      rw [hd, place_num a pos hap] at cP
      rw [hd] at hit2 hb2 hnx
      have hw1 := Lib.decodeL_width (a.drop pos)
      have hw2 := Lib.decodeL_le (a.drop pos) hne
      rw [List.length_drop] at hw2
      have hX1 := unhide hX
      rw [nums_cons _ hne, List.drop_drop] at hX1
      have hnt := num_tok (a.drop pos) (b.drop pos) hne
      have hfp : b.drop pos ≠ [] → fp (b.drop pos) = (tokNum (headTok (b.drop pos)) : Int) := fp_some _
      have hfp0 : b.drop pos = [] → fp (b.drop pos) = -1 := fun h => by rw [h]; rfl
      have hnb : b.drop pos ≠ [] → nums (b.drop pos) = tokNum (headTok (b.drop pos)) :: nums (b.drop (pos + (Lib.decodeL (b.drop pos)).2)) := fun h => by rw [nums_cons _ h, List.drop_drop]
      have hbw : b.drop pos ≠ [] → pos + (Lib.decodeL (b.drop pos)).2 ≤ b.length := fun h => by
        have h3 := Lib.decodeL_le (b.drop pos) h
        rw [List.length_drop] at h3; omega
      have cF := fun w hT => firstPlace_calls (b.drop pos) (by rw [List.length_drop]; omega) w hT
      have ed := drop_str b pos _ rfl
      have hxb : tokNum (headTok (a.drop pos)) < 2000256 := (tokNum_lt (a.drop pos) _ (by rw [tk_cons _ hne]; simp)).2
      generalize hr : (Lib.decodeL (a.drop pos)).1 = r at *
      generalize hwd : (Lib.decodeL (a.drop pos)).2 = wd at *
      generalize tokNum (headTok (a.drop pos)) = x at *
      generalize hW : wr.iterAt w.heap.size s (pos + wd) = W at *
      have kP : Hid (∀ dd os, Calls Tryd.prog 100 #[.string s, .int .i64 (pos : Int), .int .i32 (r : Int)] (Sort.grow (redrawn W dd) os) fun e w'' => e = .returned (.int .i32 (x : Int)) ∧ ∃ p : Regrown, w'' = Sort.grow (redrawn W p.d) p.os) := fun dd os => Calls.regrown_of ((cP _).mono fun e w' h => ⟨h.1, by rw [h.2]; exact Below.refl _ _⟩)
      have kF : Hid (∀ dd os, Calls Tryd.prog 101 #[.string (str (b.drop pos))] (Sort.grow (redrawn W dd) os) fun e w'' => e = .returned (.int .i32 (fp (b.drop pos))) ∧ ∃ p : Regrown, w'' = Sort.grow (redrawn W p.d) p.os) := fun dd os => Calls.regrown_of (cF _ ((unhide HT).below' (hb2.trans ((below_regrown W dd os).mono hb2.size))))
      have bp : (pos : Int) ≤ (b.length : Int) := by omega
      have Hit2 := hide hit2
      have Hb2 := hide hb2
      clear cP cF hd hit2 hb2 hr hW hne hsz
      by_cases hbe : b.drop pos = []
      · have hy := hfp0 hbe
        rw [hy] at kF
        have hRv : R = 1 := by rw [hX1, hbe, nums_nil]; rfl
        subst hRv
        have d1 : decide ((x : Int) < -1) = false := decide_eq_false (by omega)
        have d2 : decide ((-1 : Int) < (x : Int)) = true := decide_eq_true (by omega)
        clear hX1 hX hnt hfp hfp0 hnb hbw hbe HR hy
        go_wp2_with fail
        refine wp_region_below (show Tryd.prog.follows .mixedOrders = true by kernel_rfl) (by kernel_rfl) ?_
        quiet_step (fail)
        quiet_step (fail)
        quiet_step (fail)
        quiet_step (exact unhide kP _ _)
        quiet_step (fail)
        quiet_step (fail)
        quiet_step (fail)
        quiet_step (exact unhide kF _ _)
        quiet_step (fail)
        quiet_step (fail)
        refine wpQuiet_nil ?_
        intro w3 hb3
        have b3 := (unhide Hb2).trans (hb3.mono (unhide Hb2).size)
        clear kP kF
        go_wp2
        go_ret
        exact ⟨rfl, b3⟩
      · have hy := hfp hbe
        have hnb2 := hnb hbe
        have hnt2 := hnt hbe
        have hbw2 := hbw hbe
        rw [hy] at kF
        rw [hnb2] at hX1
        have hzb : tokNum (headTok (b.drop pos)) < 2000256 := (tokNum_lt (b.drop pos) _ (by rw [tk_cons _ hbe]; simp)).2
        generalize tokNum (headTok (b.drop pos)) = z at *
        by_cases hxz : x < z
        · have hRv : R = -1 := by rw [hX1, ordN, if_pos hxz]
          subst hRv
          have d1 : decide (x < z) = true := by simpa using hxz
          clear hX1 hX hnt hfp hfp0 hnb hbw hbe HR hy hnt2 hnb2
          go_wp2_with fail
          refine wp_region_below (show Tryd.prog.follows .mixedOrders = true by kernel_rfl) (by kernel_rfl) ?_
          quiet_step (fail)
          quiet_step (fail)
          quiet_step (fail)
          quiet_step (exact unhide kP _ _)
          quiet_step (fail)
          quiet_step (fail)
          quiet_step (fail)
          quiet_step (exact unhide kF _ _)
          quiet_step (fail)
          quiet_step (fail)
          refine wpQuiet_nil ?_
          intro w3 hb3
          have b3 := (unhide Hb2).trans (hb3.mono (unhide Hb2).size)
          clear kP kF
          go_wp2
          go_ret
          exact ⟨rfl, b3⟩
        · have d1 : decide (x < z) = false := by simpa using hxz
          by_cases hzx : z < x
          · have hRv : R = 1 := by rw [hX1, ordN, if_neg hxz, if_pos hzx]
            subst hRv
            have d2 : decide (z < x) = true := by simpa using hzx
            clear hX1 hX hnt hfp hfp0 hnb hbw hbe HR hy hnt2 hnb2
            go_wp2_with fail
            refine wp_region_below (show Tryd.prog.follows .mixedOrders = true by kernel_rfl) (by kernel_rfl) ?_
            quiet_step (fail)
            quiet_step (fail)
            quiet_step (fail)
            quiet_step (exact unhide kP _ _)
            quiet_step (fail)
            quiet_step (fail)
            quiet_step (fail)
            quiet_step (exact unhide kF _ _)
            quiet_step (fail)
            quiet_step (fail)
            refine wpQuiet_nil ?_
            intro w3 hb3
            have b3 := (unhide Hb2).trans (hb3.mono (unhide Hb2).size)
            clear kP kF
            go_wp2
            go_ret
            exact ⟨rfl, b3⟩
          · have d2 : decide (z < x) = false := by simpa using hzx
            have hwe := (hnt2 (by omega)).2
            rw [← hwe] at hX1 hbw2
            have hX3 : R = ordN (nums (a.drop (pos + wd))) (nums (b.drop (pos + wd))) := by rw [hX1, ordN, if_neg hxz, if_neg hzx]
            have HX3 := hide hX3
            have hlen2 : pos + wd ≤ a.length ∧ pos + wd ≤ b.length := ⟨by omega, hbw2⟩
            clear hX1 hX3 hX hnt hfp hfp0 hnb hbw hbe HR hy hnt2 hnb2 hwe hwd hbw2 hw2
            go_wp2_with fail
            refine wp_region_below (show Tryd.prog.follows .mixedOrders = true by kernel_rfl) (by kernel_rfl) ?_
            quiet_step (fail)
            quiet_step (fail)
            quiet_step (fail)
            quiet_step (exact unhide kP _ _)
            quiet_step (fail)
            quiet_step (fail)
            quiet_step (fail)
            quiet_step (exact unhide kF _ _)
            quiet_step (fail)
            quiet_step (fail)
            refine wpQuiet_nil ?_
            intro w3 hb3
            have b3 := (unhide Hb2).trans (hb3.mono (unhide Hb2).size)
            have it3 := Below.at hb3 (Array.getElem?_eq_some_iff.1 (unhide Hit2)).1 (unhide Hit2)
            have IT3 := hide it3
            clear kP kF it3
            go_wp2
            refine ⟨⟨pos + wd, unhide IT3, b3, hlen2.1, hlen2.2, HX3⟩, ?_⟩
            simp only [World.iterPos, unhide IT3, hit]; omega
    · have hnx : ∀ ty, (Instr.next (.pointer (some ⟨w.heap.size, 0, none⟩)) true ty).run Tryd.prog wr = _ := fun ty => Lib.run_next_end_at wr w.heap.size s pos ty hit hp
      have hX1 := unhide hX
      have hpe : pos = a.length := by omega
      rw [List.drop_of_length_le (show a.length ≤ pos by omega), nums_nil] at hX1
      have hsl : (str a).size = a.length := str_size a
      by_cases hab : a.length < b.length
      · have hne : b.drop pos ≠ [] := by simp; omega
        have hRv : R = -1 := by rw [hX1, nums_cons _ hne]; rfl
        subst hRv
        have d1 : decide (a.length < b.length) = true := by simpa using hab
        have hss := unhide Hsz
        clear hX1 hX HR hne hpe
        go_wp2
        go_ret
        exact ⟨rfl, hb⟩
      · have hbe : b.drop pos = [] := by rw [List.drop_eq_nil_iff]; omega
        have hRv : R = 0 := by rw [hX1, hbe]; rfl
        subst hRv
        have d1 : decide (a.length < b.length) = false := by simpa using hab
        have hss := unhide Hsz
        clear hX1 hX HR hbe hpe
        go_wp2
        go_ret
        exact ⟨rfl, hb⟩
end Go.Proofs.YtjfnaedcdmmigaaDoor

namespace Go.Proofs.YtjfnaedcdmmigaaDoor
open Go Go.RowKit
set_option linter.unusedSimpArgs false
set_option linter.unusedVariables false

def cmpN (a b : Nat) : Int := if a < b then -1 else if b < a then 1 else 0
def pOrd (o : Nat) (n : List UInt8) (o' : Nat) (n' : List UInt8) : Int := if cmpN o o' = 0 then ordN (nums n) (nums n') else cmpN o o'
def hOrd (o : Nat) (n a : List UInt8) (o' : Nat) (n' a' : List UInt8) : Int := if pOrd o n o' n' = 0 then ordN (nums a) (nums a') else pOrd o n o' n'
theorem nan_calls (a : Nat) (w : World) : Calls Tryd.prog 99 #[.int .u32 (a : Int)] w fun e w' => e = .returned (.bool false) ∧ w' = w := by
  go_enter Tryd.func99, Tryd.ntmps99
  go_wp2
  go_ret
  exact ⟨rfl, rfl⟩
theorem cmp_calls (a b : Nat) (w : World) : Calls Tryd.prog 76 #[.int .u32 (a : Int), .int .u32 (b : Int)] w fun e w' => e = .returned (.int .i64 (cmpN a b)) ∧ w' = w := by
  have h1 := hide fun W => nan_calls a W
  have h2 := hide fun W => nan_calls b W
  have hl : Hid (a < b → cmpN a b = -1) := hide fun h => by unfold cmpN; rw [if_pos h]
  have hg : Hid (¬ a < b → b < a → cmpN a b = 1) := hide fun h h' => by unfold cmpN; rw [if_neg h, if_pos h']
  have he : Hid (¬ a < b → ¬ b < a → cmpN a b = 0) := hide fun h h' => by unfold cmpN; rw [if_neg h, if_neg h']
  generalize cmpN a b = R at *
  go_enter Tryd.func76, Tryd.ntmps76
  go_wp2_with fail
  refine (unhide h1 _).mono ?_
  rintro e w1 ⟨rfl, rfl⟩
  go_wp2_with fail
  refine (unhide h2 _).mono ?_
  rintro e w1 ⟨rfl, rfl⟩
  by_cases e1 : a < b
  · have d1 : decide (a < b) = true := by simpa using e1
    have d1' : (a : Int) < (b : Int) := by omega
    have hr := hide (unhide hl e1)
    go_wp2
    go_ret
    exact ⟨by rw [unhide hr]; rfl, rfl⟩
  · have d1 : decide (a < b) = false := by simpa using e1
    have d1' : ¬ (a : Int) < (b : Int) := by omega
    by_cases e2 : b < a
    · have d2 : decide (b < a) = true := by simpa using e2
      have d2' : (b : Int) < (a : Int) := by omega
      have hr := hide (unhide hg e1 e2)
      go_wp2
      go_ret
      exact ⟨by rw [unhide hr]; rfl, rfl⟩
    · have d2 : decide (b < a) = false := by simpa using e2
      have d2' : ¬ (b : Int) < (a : Int) := by omega
      have hr := hide (unhide he e1 e2)
      go_wp2
      go_ret
      exact ⟨by rw [unhide hr]; rfl, rfl⟩
set_option maxRecDepth 100000 in
theorem tokOrder_calls (o : Nat) (n : List UInt8) (o' : Nat) (n' : List UInt8) (hn : n.length ≤ 1000) (hn' : n'.length ≤ 1000) (w : World) (hT : UTabs w) :
    Calls Tryd.prog 53 #[.agg (tkv o n), .agg (tkv o' n')] w fun e w' => e = .returned (.int .i64 (pOrd o n o' n')) ∧ Below w.heap.size w w' := by
  have hc := hide fun W => cmp_calls o o' W
  have ho := hide fun W t => order_calls n n' (by omega) (by omega) W t
  have b0 := bel2 w (.cells (tkv o n) 79) (.cells (tkv o' n') 79)
  have tX := hide (hT.below' b0)
  have hz : Hid (cmpN o o' = 0 → pOrd o n o' n' = ordN (nums n) (nums n')) := hide fun h => by unfold pOrd; rw [if_pos h]
  have hnz : Hid (cmpN o o' ≠ 0 → pOrd o n o' n' = cmpN o o') := hide fun h => by unfold pOrd; rw [if_neg h]
  generalize pOrd o n o' n' = RR at *
  generalize ordN (nums n) (nums n') = R at *
  generalize cmpN o o' = C at *
  unfold tkv at *
  clear hT
  go_enter Tryd.func53, Tryd.ntmps53
  go_wp2_with fail
  refine (unhide hc _).mono ?_
  rintro e w1 ⟨rfl, rfl⟩
  by_cases e0 : C = 0
  · have d0 : decide (C = 0) = true := by simpa using e0
    have hr := hide (unhide hz e0)
    subst e0
    go_wp2_with fail
    refine (unhide ho _ (unhide tX)).mono ?_
    rintro e w2 ⟨rfl, b2⟩
    go_wp2
    go_ret
    exact ⟨by rw [unhide hr]; rfl, b0.trans (b2.mono b0.size)⟩
  · have d0 : decide (C = 0) = false := by simpa using e0
    have hr := hide (unhide hnz e0)
    go_wp2
    go_ret
    exact ⟨by rw [unhide hr]; rfl, b0⟩
set_option maxRecDepth 100000 in
theorem holOrder_calls (o : Nat) (n a : List UInt8) (o' : Nat) (n' a' : List UInt8) (hn : n.length ≤ 1000) (ha : a.length ≤ 1000) (hn' : n'.length ≤ 1000) (ha' : a'.length ≤ 1000) (w : World) (hT : UTabs w) :
    Calls Tryd.prog 70 #[.agg (hkv o n a), .agg (hkv o' n' a')] w fun e w' => e = .returned (.int .i64 (hOrd o n a o' n' a')) ∧ Below w.heap.size w w' := by
  have hc := hide fun W t => tokOrder_calls o n o' n' hn hn' W t
  have ho := hide fun W t => order_calls a a' (by omega) (by omega) W t
  obtain ⟨q0, q1⟩ := al2 w (.cells (hkv o n a) 81) (.cells (hkv o' n' a') 81)
  have b0 := bel2 w (.cells (hkv o n a) 81) (.cells (hkv o' n' a') 81)
  have tX := hide (hT.below' b0)
  have hz : Hid (pOrd o n o' n' = 0 → hOrd o n a o' n' a' = ordN (nums a) (nums a')) := hide fun h => by unfold hOrd; rw [if_pos h]
  have hnz : Hid (pOrd o n o' n' ≠ 0 → hOrd o n a o' n' a' = pOrd o n o' n') := hide fun h => by unfold hOrd; rw [if_neg h]
  generalize hOrd o n a o' n' a' = RR at *
  generalize ordN (nums a) (nums a') = R at *
  generalize pOrd o n o' n' = C at *
  unfold tkv at hc
  unfold hkv at *
  clear hT
  obtain ⟨X, hX⟩ : ∃ X, (w.alloc (.cells #[Value.int .u32 (o : Int), .string (str n), .string (str a)] 81)).alloc (.cells #[Value.int .u32 (o' : Int), .string (str n'), .string (str a')] 81) = X := ⟨_, rfl⟩
  have HX := hide hX
  have sX : X.heap.size = w.heap.size + 1 + 1 := by rw [← hX]; simp
  rw [hX] at q0 q1 b0 tX
  have r0 : X.rangeAt w.heap.size 0 [Value.int .u32 (o : Int), .string (str n)] := fun i v hv => by
    rw [Nat.zero_add, cell_of_row _ _ _ _ _ _ q0]
    rcases i with _ | _ | i
    · exact hv
    · exact hv
    · simp at hv
  have r1 : X.rangeAt (w.heap.size + 1) 0 [Value.int .u32 (o' : Int), .string (str n')] := fun i v hv => by
    rw [Nat.zero_add, cell_of_row _ _ _ _ _ _ q1]
    rcases i with _ | _ | i
    · exact hv
    · exact hv
    · simp at hv
  clear hX
  go_enter Tryd.func70, Tryd.ntmps70
  go_upto_region 1 with fail
  change Code.wp _ _ _ _ ((w.alloc (.cells #[Value.int .u32 (o : Int), .string (str n), .string (str a)] 81)).alloc (.cells #[Value.int .u32 (o' : Int), .string (str n'), .string (str a')] 81))
  rw [unhide HX]
  go_wp2_with (first
    | (refine wpList_load_mid rfl 79 (.tmp 6) rfl w.heap.size 0 rfl _ _ r0 Tryd.underlying79 rfl (by kernel_rfl) ?_)
    | (refine wpList_load_mid rfl 79 (.tmp 8) rfl (w.heap.size + 1) 0 rfl _ _ r1 Tryd.underlying79 rfl (by kernel_rfl) ?_))
  refine (unhide hc _ (unhide tX)).mono ?_
  rintro e w1 ⟨rfl, b1⟩
  have b01 := b0.trans (b1.mono b0.size)
  have tY := hide ((unhide tX).below' b1)
  have p0 := Below.at b1 (by omega) q0
  have p1 := Below.at b1 (by omega) q1
  have k0 : w1.cell? ⟨w.heap.size, 2, none⟩ = some (.string (str a)) := cell_of_row _ _ _ _ _ _ p0
  have k1 : w1.cell? ⟨w.heap.size + 1, 2, none⟩ = some (.string (str a')) := cell_of_row _ _ _ _ _ _ p1
  clear r0 r1 q0 q1 p0 p1 b1 b0 HX
  by_cases e0 : C = 0
  · have d0 : decide (C = 0) = true := by simpa using e0
    have hr := hide (unhide hz e0)
    subst e0
    go_wp2_with fail
    refine (unhide ho _ (unhide tY)).mono ?_
    rintro e w2 ⟨rfl, b2⟩
    clear k0 k1
    go_wp2
    go_ret
    exact ⟨by rw [unhide hr]; rfl, b01.trans (b2.mono b01.size)⟩
  · have d0 : decide (C = 0) = false := by simpa using e0
    have hr := hide (unhide hnz e0)
    go_wp2
    go_ret
    exact ⟨by rw [unhide hr]; rfl, b01⟩
end Go.Proofs.YtjfnaedcdmmigaaDoor

namespace Go.Proofs.YtjfnaedcdmmigaaDoor
open Go Go.RowKit
set_option linter.unusedSimpArgs false
set_option linter.unusedVariables false

set_option maxRecDepth 100000 in
/-- Whether a token stands behind a key. -/
theorem tokBehind_calls (x : Tkn) (hx : x.ok) (o : Nat) (n : List UInt8) (hn : n.length ≤ 1000) (K : Nat) (w : World) (hT : UTabs w) (hK : w.heap[K]? = some (.cells (tkv o n) 79 (0, 0))) :
    Calls Tryd.prog 52 #[.agg (tokC x).toArray, .pointer (some ⟨K, 0, none⟩)] w fun e w' => e = .returned (.bool (decide (0 < pOrd x.o x.n o n))) ∧ Below w.heap.size w w' := by
  have hk := hide fun W => keyOf_calls x W
  have ho := hide fun W t => tokOrder_calls x.o x.n o n hx.2.1 hn W t
  have hti := sizeT x
  have hik := tkInfo o n
  have q0 := al1 w (.cells (tokC x).toArray 38)
  have b0 : Below w.heap.size w (w.alloc (.cells (tokC x).toArray 38)) := (Below.refl _ _).alloc (Nat.le_refl _) _
  have kk := Below.at b0 (Array.getElem?_eq_some_iff.1 hK).1 hK
  have sX : (w.alloc (.cells (tokC x).toArray 38)).heap.size = w.heap.size + 1 := by simp
  have zK := (Array.getElem?_eq_some_iff.1 hK).1
  have tX := hT.below' b0
  generalize pOrd x.o x.n o n = R at *
  generalize tkv x.o x.n = A at *
  generalize tkv o n = B at *
  generalize tokC x = C at *
  obtain ⟨X, hX⟩ : ∃ X, w.alloc (.cells C.toArray 38) = X := ⟨_, rfl⟩
  have HX := hide hX
  rw [hX] at q0 b0 kk sX tX
  have R0 : Hid (∀ w', (∃ p : Regrown, w' = Sort.grow (redrawn X p.d) p.os) → w'.heap[w.heap.size]? = some (.cells C.toArray 38 (0, 0))) := fun w' ⟨p, hp⟩ => by rw [hp]; exact Below.at (below_regrown X p.d p.os) (by omega) q0
  have R1 : Hid (∀ w', (∃ p : Regrown, w' = Sort.grow (redrawn X p.d) p.os) → w'.heap[K]? = some (.cells B 79 (0, 0))) := fun w' ⟨p, hp⟩ => by rw [hp]; exact Below.at (below_regrown X p.d p.os) (by omega) kk
  have kC := hide fun d os => Calls.regrown_of (w := X) (d := d) (os := os) (unhide hk _)
  have kO := hide fun d os => Calls.regrown_of (w := X) (d := d) (os := os) (unhide ho _ (tX.below' (below_regrown X d os)))
  clear hK hX q0 kk sX zK tX
  go_enter Tryd.func52, Tryd.ntmps52
  go_upto_region 1 with fail
  change Code.wp _ _ _ _ (w.alloc (.cells C.toArray 38))
  rw [unhide HX]
  go_wp2_with fail
  refine wp_region_below mixed (by kernel_rfl) ?_
  refine wpQuiet_load_row rfl 38 (.tmp 2) rfl w.heap.size rfl 38 C.toArray (0, 0) _ (unhide R0) Tryd.underlying38 rfl hti ?_
  quiet_step (exact unhide kC _ _)
  refine wpQuiet_load_row rfl 79 (.tmp 1) rfl K rfl 79 B (0, 0) _ (unhide R1) Tryd.underlying79 rfl hik ?_
  quiet_step (exact unhide kO _ _)
  quiet_step (fail)
  quiet_step (fail)
  refine wpQuiet_nil ?_
  intro w3 b3
  go_wp2
  go_ret
  exact ⟨rfl, b0.trans (b3.mono b0.size)⟩
set_option maxRecDepth 100000 in
/-- Whether a holding stands behind a key. -/
theorem holBehind_calls (x : Hol) (hx : x.ok) (o : Nat) (n a : List UInt8) (hn : n.length ≤ 1000) (ha : a.length ≤ 1000) (K : Nat) (w : World) (hT : UTabs w) (hK : w.heap[K]? = some (.cells (hkv o n a) 81 (0, 0))) :
    Calls Tryd.prog 83 #[.agg (holC x).toArray, .pointer (some ⟨K, 0, none⟩)] w fun e w' => e = .returned (.bool (decide (0 < hOrd x.o x.n x.w o n a))) ∧ Below w.heap.size w w' := by
  have hk := hide fun W => heldKey_calls x W
  have ho := hide fun W t => holOrder_calls x.o x.n x.w o n a hx.2.1 hx.2.2.1 hn ha W t
  have hti := sizeH x
  have hik := hkInfo o n a
  have q0 := al1 w (.cells (holC x).toArray 75)
  have b0 : Below w.heap.size w (w.alloc (.cells (holC x).toArray 75)) := (Below.refl _ _).alloc (Nat.le_refl _) _
  have kk := Below.at b0 (Array.getElem?_eq_some_iff.1 hK).1 hK
  have sX : (w.alloc (.cells (holC x).toArray 75)).heap.size = w.heap.size + 1 := by simp
  have zK := (Array.getElem?_eq_some_iff.1 hK).1
  have tX := hT.below' b0
  generalize hOrd x.o x.n x.w o n a = R at *
  generalize hkv x.o x.n x.w = A at *
  generalize hkv o n a = B at *
  generalize holC x = C at *
  obtain ⟨X, hX⟩ : ∃ X, w.alloc (.cells C.toArray 75) = X := ⟨_, rfl⟩
  have HX := hide hX
  rw [hX] at q0 b0 kk sX tX
  have R0 : Hid (∀ w', (∃ p : Regrown, w' = Sort.grow (redrawn X p.d) p.os) → w'.heap[w.heap.size]? = some (.cells C.toArray 75 (0, 0))) := fun w' ⟨p, hp⟩ => by rw [hp]; exact Below.at (below_regrown X p.d p.os) (by omega) q0
  have R1 : Hid (∀ w', (∃ p : Regrown, w' = Sort.grow (redrawn X p.d) p.os) → w'.heap[K]? = some (.cells B 81 (0, 0))) := fun w' ⟨p, hp⟩ => by rw [hp]; exact Below.at (below_regrown X p.d p.os) (by omega) kk
  have kC := hide fun d os => Calls.regrown_of (w := X) (d := d) (os := os) (unhide hk _)
  have kO := hide fun d os => Calls.regrown_of (w := X) (d := d) (os := os) (unhide ho _ (tX.below' (below_regrown X d os)))
  clear hK hX q0 kk sX zK tX
  go_enter Tryd.func83, Tryd.ntmps83
  go_upto_region 1 with fail
  change Code.wp _ _ _ _ (w.alloc (.cells C.toArray 75))
  rw [unhide HX]
  go_wp2_with fail
  refine wp_region_below mixed (by kernel_rfl) ?_
  refine wpQuiet_load_row rfl 75 (.tmp 2) rfl w.heap.size rfl 75 C.toArray (0, 0) _ (unhide R0) Tryd.underlying75 rfl hti ?_
  quiet_step (exact unhide kC _ _)
  refine wpQuiet_load_row rfl 81 (.tmp 1) rfl K rfl 81 B (0, 0) _ (unhide R1) Tryd.underlying81 rfl hik ?_
  quiet_step (exact unhide kO _ _)
  quiet_step (fail)
  quiet_step (fail)
  refine wpQuiet_nil ?_
  intro w3 b3
  go_wp2
  go_ret
  exact ⟨rfl, b0.trans (b3.mono b0.size)⟩
end Go.Proofs.YtjfnaedcdmmigaaDoor

namespace Go.Proofs.YtjfnaedcdmmigaaDoor
open Go Go.RowKit
set_option linter.unusedSimpArgs false
set_option linter.unusedVariables false

/-- A purse in memory. -/
def PM (w : World) (v : Value) (ts : List Tkn) (hs : List Hol) : Prop := ∃ p1 c1 p2 c2, v = .agg #[.slice p1 ts.length c1, .slice p2 hs.length c2] ∧ EL tokC w p1 ts ∧ EL holC w p2 hs
/-- A purse in memory of the call's own. -/
def PO (w : World) (B : Nat) (v : Value) (ts : List Tkn) (hs : List Hol) : Prop := ∃ v1 v2, v = .agg #[v1, v2] ∧ w.ownsRow B 38 7 v1 ts.length (ts.flatMap tokC) ∧ w.ownsRow B 75 4 v2 hs.length (hs.flatMap holC)
theorem PM.below {w w' : World} {v : Value} {ts : List Tkn} {hs : List Hol} (h : PM w v ts hs) (hb : Below w.heap.size w w') : PM w' v ts hs := by
  obtain ⟨p1, c1, p2, c2, rfl, h1, h2⟩ := h
  exact ⟨p1, c1, p2, c2, rfl, h1.below hb, h2.below hb⟩
theorem PO.below {w w' : World} {B : Nat} {v : Value} {ts : List Tkn} {hs : List Hol} (h : PO w B v ts hs) (hb : Below w.heap.size w w') : PO w' B v ts hs := by
  obtain ⟨v1, v2, rfl, h1, h2⟩ := h
  exact ⟨v1, v2, rfl, vowns_below h1 hb, vowns_below h2 hb⟩
theorem PO.base {w : World} {B C : Nat} {v : Value} {ts : List Tkn} {hs : List Hol} (h : PO w B v ts hs) (hC : C ≤ B) : PO w C v ts hs := by
  obtain ⟨v1, v2, rfl, h1, h2⟩ := h
  exact ⟨v1, v2, rfl, vowns_base h1 hC, vowns_base h2 hC⟩
theorem PO.mem {w : World} {B : Nat} {v : Value} {ts : List Tkn} {hs : List Hol} (h : PO w B v ts hs) : PM w v ts hs := by
  obtain ⟨v1, v2, rfl, h1, h2⟩ := h
  obtain ⟨p1, c1, rfl, e1⟩ := EL_of_owns tokC_len h1
  obtain ⟨p2, c2, rfl, e2⟩ := EL_of_owns holC_len h2
  exact ⟨p1, c1, p2, c2, rfl, e1, e2⟩
/-- A row of the call's own, where another block is written. -/
theorem vowns_other {B s n G : Nat} {w w' : World} {t : TypeId} {v : Value} {xs : List Value} (h : w.ownsRow B t s v n xs) (hk : ∀ k, k ≠ G → w'.heap[k]? = w.heap[k]?) (C : Array Value) (u : TypeId) (hu : u ≠ t) (hG : w.heap[G]? = some (.cells C u (0, 0))) : w'.ownsRow B t s v n xs := by
  obtain ⟨h1, h2⟩ := h
  refine ⟨h1, ?_⟩
  rcases h2 with h2 | ⟨g, cap, cur, rfl, hB, hg, hc, hm, hs, ht⟩
  · exact .inl h2
  · refine .inr ⟨g, cap, cur, rfl, hB, (hk g fun e => ?_).trans hg, hc, hm, hs, ht⟩
    rw [e, hG] at hg
    simp only [Option.some.injEq, Obj.cells.injEq] at hg
    exact hu hg.2.1
theorem PO.other {B G : Nat} {w w' : World} {v : Value} {ts : List Tkn} {hs : List Hol} (h : PO w B v ts hs) (hk : ∀ k, k ≠ G → w'.heap[k]? = w.heap[k]?) (C : Array Value) (u : TypeId) (h1 : u ≠ 38) (h2 : u ≠ 75) (hG : w.heap[G]? = some (.cells C u (0, 0))) : PO w' B v ts hs := by
  obtain ⟨v1, v2, rfl, o1, o2⟩ := h
  exact ⟨v1, v2, rfl, vowns_other o1 hk C u h1 hG, vowns_other o2 hk C u h2 hG⟩
set_option maxHeartbeats 4000000 in
set_option maxRecDepth 100000 in
theorem twin_calls (ts : List Tkn) (hs : List Hol) (hn1 : ts.length ≤ 1000) (hn2 : hs.length ≤ 1000) (v : Value) (w : World) (hP : PM w v ts hs) :
    Calls Tryd.prog 43 #[v] w fun e w' => (∃ v', e = .returned v' ∧ PO w' w.heap.size v' ts hs) ∧ Below w.heap.size w w' := by
  obtain ⟨p1, c1, p2, c2, rfl, hT, hH⟩ := hP
  obtain ⟨q0, q1⟩ := al2 w (.cells #[.slice p1 ts.length c1, .slice p2 hs.length c2] 27) (.cells #[.slice none 0 0, .slice none 0 0] 27)
  have b0 := bel2 w (.cells #[.slice p1 ts.length c1, .slice p2 hs.length c2] 27) (.cells #[.slice none 0 0, .slice none 0 0] 27)
  obtain ⟨X, hX⟩ : ∃ X, (w.alloc (.cells #[.slice p1 ts.length c1, .slice p2 hs.length c2] 27)).alloc (.cells #[.slice none 0 0, .slice none 0 0] 27) = X := ⟨_, rfl⟩
  have HX := hide hX
  have SX : Hid (X.heap.size = w.heap.size + 1 + 1) := hide (by rw [← hX]; simp)
  rw [hX] at q0 q1 b0
  have Q0 := hide q0
  have Q1 := hide q1
  have B0 := hide b0
  have CT := hide fun W (hW : Below (w.heap.size + 1) X W) => cloneT_calls ts hn1 p1 c1 W (VL.below hT (b0.trans (hW.mono (Nat.le_succ _))) (Nat.le_refl _))
  have CH := hide fun W (hW : Below (w.heap.size + 1) X W) => cloneH_calls hs hn2 p2 c2 W (VL.below hH (b0.trans (hW.mono (Nat.le_succ _))) (Nat.le_refl _))
  have fin : Hid (∀ (x1 x2 : Option Addr) (d1 d2 : Nat) (W : World), Below (w.heap.size + 1) X W → W.heap[w.heap.size + 1]? = some (.cells #[.slice none 0 0, .slice none 0 0] 27 (0, 0)) → W.ownsRow w.heap.size 38 7 (.slice x1 ts.length d1) ts.length (ts.flatMap tokC) → W.ownsRow w.heap.size 75 4 (.slice x2 hs.length d2) hs.length (hs.flatMap holC) →
      (PO (W.setRow (w.heap.size + 1) #[.slice x1 ts.length d1, .slice x2 hs.length d2]) w.heap.size (.agg #[.slice x1 ts.length d1, .slice x2 hs.length d2]) ts hs ∧ Below w.heap.size w (W.setRow (w.heap.size + 1) #[.slice x1 ts.length d1, .slice x2 hs.length d2])) ∧ Below (w.heap.size + 1) X (W.setRow (w.heap.size + 1) #[.slice x1 ts.length d1, .slice x2 hs.length d2])) := hide fun x1 x2 d1 d2 W hW p1' o1 o2 => by
    have po : PO W w.heap.size (.agg #[.slice x1 ts.length d1, .slice x2 hs.length d2]) ts hs := ⟨_, _, rfl, o1, o2⟩
    exact ⟨⟨po.other (fun k hk => setRow_other _ _ _ _ hk) _ _ (by decide) (by decide) p1', (b0.trans (hW.mono (Nat.le_succ _))).trans (below_setRow (Below.refl _ _) (by omega) _)⟩, hW.trans (below_setRow (Below.refl _ _) (Nat.le_refl _) _)⟩
  clear hT hH hX q0 q1 b0 hn1 hn2
  go_enter Tryd.func43, Tryd.ntmps43
  go_upto_region 1 with fail
  change Code.wp _ _ _ _ ((w.alloc (.cells #[.slice p1 ts.length c1, .slice p2 hs.length c2] 27)).alloc (.cells #[.slice none 0 0, .slice none 0 0] 27))
  rw [unhide HX]
  go_wp2_with fail
  have hS0 : Below (w.heap.size + 1) X ({ X with drawn := X.drawn + 1 } : World) := ⟨rfl, rfl, rfl, Nat.le_refl _, fun _ _ => rfl⟩
  have rc0 : Hid (∀ W, Below (w.heap.size + 1) X W → W.cell? ⟨w.heap.size, 0, none⟩ = some (.slice p1 ts.length c1)) := hide fun W h => by rw [cell_of_row _ _ _ _ _ _ (Below.at h (Nat.lt_succ_self _) (unhide Q0))]; rfl
  have rc1 : Hid (∀ W, Below (w.heap.size + 1) X W → W.cell? ⟨w.heap.size, 1, none⟩ = some (.slice p2 hs.length c2)) := hide fun W h => by rw [cell_of_row _ _ _ _ _ _ (Below.at h (Nat.lt_succ_self _) (unhide Q0))]; rfl
  refine wp_region_held (S := fun W => Below (w.heap.size + 1) X W) mixed ?_
  obtain ⟨d0, hd0⟩ : ∃ d, { X with drawn := X.drawn + 1 } = d := ⟨_, rfl⟩
  have Q1d : Hid (d0.heap[w.heap.size + 1]? = some (.cells #[.slice none 0 0, .slice none 0 0] 27 (0, 0))) := hide (by rw [← hd0]; exact unhide Q1)
  have zd : Hid (w.heap.size + 1 + 1 ≤ d0.heap.size) := hide (by rw [← hd0]; exact Nat.le_of_eq (unhide SX).symm)
  rw [hd0] at hS0
  rw [hd0]
  clear hd0
  refine wpAnyH_take (i := 0) (v := .pointer (some ⟨w.heap.size, 0, none⟩)) rfl (by kernel_rfl) (by kernel_rfl) (by kernel_rfl) (fun _ _ _ h => h) (.inl ⟨by kernel_rfl, fun W _ => by go_simp⟩) hS0 ?_
  refine wpAnyH_take (i := 1) (v := .slice p1 ts.length c1) rfl (by kernel_rfl) (by kernel_rfl) (by kernel_rfl) (fun _ _ _ h => h) (.inl ⟨rfl, fun W hW => by have c2 := unhide rc0 W hW; go_simp⟩) hS0 ?_
  refine wpAnyH_take (i := 3) (v := .pointer (some ⟨w.heap.size, 1, none⟩)) rfl (by kernel_rfl) (by kernel_rfl) (by kernel_rfl) (fun _ _ _ h => h) (.inl ⟨by kernel_rfl, fun W _ => by go_simp⟩) hS0 ?_
  refine wpAnyH_take (i := 4) (v := .slice p2 hs.length c2) rfl (by kernel_rfl) (by kernel_rfl) (by kernel_rfl) (fun _ _ _ h => h) (.inl ⟨rfl, fun W hW => by have c2 := unhide rc1 W hW; go_simp⟩) hS0 ?_
  have S0 := hide hS0
  clear hS0 rc0 rc1
  refine wpAnyH_one 2 _ (by kernel_rfl) rfl ?_
  · go_wp2_with fail
    refine (unhide CT _ (unhide S0)).mono ?_
    rintro e w2 ⟨⟨v1, rfl, own1⟩, b2⟩
    have z2 := b2.size
    have S2 : Hid (Below (w.heap.size + 1) X w2) := hide ((unhide S0).trans (b2.mono (by have := unhide zd; omega)))
    have P2 := hide (Below.at b2 (by have := unhide zd; omega) (unhide Q1d))
    go_wp2
    refine ⟨unhide S2, ?_⟩
    refine wpAnyH_one 5 _ (by kernel_rfl) rfl ?_
    go_wp2_with fail
    refine (unhide CH _ (unhide S2)).mono ?_
    rintro e w3 ⟨⟨v2, rfl, own2⟩, b3⟩
    have S3 : Hid (Below (w.heap.size + 1) X w3) := hide ((unhide S2).trans (b3.mono (by have := unhide zd; omega)))
    have p1 := Below.at b3 (by have := unhide zd; omega) (unhide P2)
    have own1' := vowns_base (C := w.heap.size) (vowns_below own1 b3) (by have := unhide zd; omega)
    have own2' := vowns_base (C := w.heap.size) own2 (by have := unhide zd; omega)
    obtain ⟨x1, d1, hv1, _⟩ := EL_of_owns tokC_len own1'
    obtain ⟨x2, d2, hv2, _⟩ := EL_of_owns holC_len own2'
    subst hv1
    subst hv2
    have FF := hide (unhide fin x1 x2 d1 d2 w3 (unhide S3) p1 own1' own2')
    clear own1 own2 own1' own2' b2 b3 z2
    go_wp2
    refine ⟨unhide S3, ?_⟩
    refine wpAnyH_take (i := 6) (v := .agg #[.slice x1 ts.length d1, .slice x2 hs.length d2]) rfl (by kernel_rfl) (by kernel_rfl) (by kernel_rfl) (fun _ _ _ h => h) (yields_build rfl 27 #[(0, .tmp 5), (1, .tmp 8)] rfl #[.slice x1 ts.length d1, .slice x2 hs.length d2] (by kernel_rfl)) (unhide S3) ?_
    refine wpAnyH_one 7 _ (by kernel_rfl) rfl ?_
    have r1 := setRow_heap _ _ _ #[.slice x1 ts.length d1, .slice x2 hs.length d2] _ _ p1
    refine wpList_store_row rfl 27 (.tmp 2) (.tmp 9) rfl (w.heap.size + 1) #[.slice x1 ts.length d1, .slice x2 hs.length d2] rfl rfl 27 _ p1 (by kernel_rfl) rfl (by simp [Value.oneCell']) ?_
    go_wp2
    refine ⟨(unhide FF).2, wpAnyH_done (by kernel_rfl) ?_ _⟩
    go_wp2
    exact bodyPost_ret (results_cell_row rfl _ _ (w.heap.size + 1) _ _ _ _ rfl r1 Tryd.underlying27 rfl (by kernel_rfl)) rfl ⟨⟨_, rfl, (unhide FF).1.1⟩, (unhide FF).1.2⟩
end Go.Proofs.YtjfnaedcdmmigaaDoor

namespace Go.Proofs.YtjfnaedcdmmigaaDoor
open Go.RowKit
set_option linter.unusedSimpArgs false
set_option linter.unusedVariables false

theorem wpList_store_newV {P : Program} {ops : Array Oper} {rest : List Oper} {op : Oper} {a : Act} {Q : Exit → Act → World → Prop} (hgd : op.guard = none) (ty : TypeId) (x y : Operand) (ho : op.op = .store ty x y)
    (W0 : World) (Z : Array Value) (t : TypeId) (D : Array Value) (hx : a.eval x = .pointer (some ⟨W0.heap.size, 0, none⟩)) (hy : a.eval y = .agg D)
    (hi : (P.info? ty).map (·.size) = some D.size) (hz : Z.size = D.size) (h1 : D.all (·.oneCell') = true)
    (h : ∀ w', w'.heap[W0.heap.size]? = some (.cells D t (0, 0)) → Below W0.heap.size W0 w' → w'.heap.size = W0.heap.size + 1 → wpList P ops Q rest (a.put op.dst undef) w') :
    wpList P ops Q (op :: rest) a (W0.alloc (.cells Z t)) := by
  refine wpList_store_row hgd ty x y ho W0.heap.size D hx hy t Z (al1 _ _) hi hz h1 ?_
  exact h _ (setRow_heap _ _ _ _ _ _ (al1 W0 (.cells Z t))) (below_setRow ((Below.refl _ _).alloc (Nat.le_refl _) _) (Nat.le_refl _) _) (by rw [setRow_size, World.size_alloc])
end Go.Proofs.YtjfnaedcdmmigaaDoor

namespace Go.Proofs.YtjfnaedcdmmigaaDoor
open Go Go.RowKit
set_option linter.unusedSimpArgs false
set_option linter.unusedVariables false

theorem pIx_find {α : Type} (p : α → Bool) (xs : List α) : (pIx p xs = -1 ∧ xs.find? p = none) ∨ ∃ (j : Nat) (x : α), pIx p xs = (j : Int) ∧ xs[j]? = some x ∧ p x = true ∧ xs.find? p = some x := by
  rcases pIx_cases p xs with ⟨h1, h2⟩ | ⟨j, x, h1, h2, h3, h4⟩
  · exact .inl ⟨h1, List.find?_eq_none.2 fun x hx => by rw [h2 x hx]; simp⟩
  · refine .inr ⟨j, x, h1, h2, h3, ?_⟩
    obtain ⟨hj, he⟩ := List.getElem?_eq_some_iff.1 h2
    refine List.find?_eq_some_iff_getElem.2 ⟨h3, j, hj, he, fun i hi => ?_⟩
    rw [h4 i hi _ (List.getElem?_eq_getElem (by omega))]; rfl
def zTok : Tkn := ⟨0, [], 0, 0, 0, 0, 0⟩
/-- The token of a key; whether there is one. -/
def pKn (ts : List Tkn) (o : Nat) (n : List UInt8) : Option Tkn := ts.find? (isT o n)
theorem tokSz (t : Tkn) : (Tryd.prog.info? 38).map (·.size) = some ((tokC t).toArray).size := by unfold tokC; kernel_rfl
theorem tokOne (t : Tkn) : ((tokC t).toArray).all (·.oneCell') = true := by simp [tokC, Value.oneCell']
theorem builtZ : Tryd.prog.built 38 [] = some (tokC zTok).toArray := by kernel_rfl
set_option maxHeartbeats 1000000 in
set_option maxRecDepth 100000 in
theorem known_calls (ts : List Tkn) (hs : List Hol) (hn1 : ts.length ≤ 1000) (hn2 : hs.length ≤ 1000) (v : Value) (o : Nat) (n : List UInt8) (w : World) (hP : PM w v ts hs) :
    Calls Tryd.prog 15 #[v, .int .u32 (o : Int), .string (str n)] w fun e w' => e = .returned (.tuple #[.agg (tokC ((pKn ts o n).getD zTok)).toArray, .bool (pKn ts o n).isSome]) ∧ Below w.heap.size w w' := by
  obtain ⟨p1, c1, p2, c2, rfl, hT, hH⟩ := hP
  obtain ⟨q0, q1⟩ := al2 w (.cells #[.slice p1 ts.length c1, .slice p2 hs.length c2] 27) (.cells (tokC zTok).toArray 38)
  have b0 := bel2 w (.cells #[.slice p1 ts.length c1, .slice p2 hs.length c2] 27) (.cells (tokC zTok).toArray 38)
  have sX : ((w.alloc (.cells #[.slice p1 ts.length c1, .slice p2 hs.length c2] 27)).alloc (.cells (tokC zTok).toArray 38)).heap.size = w.heap.size + 1 + 1 := by simp
  have CP := hide fun W a b => tokPlace_calls ts hs hn1 hn2 p1 p2 c1 c2 o n W a b
  have zt : tokC zTok = [.int .u32 0, .string (str []), .int .u64 0, .int .u64 0, .int .u64 0, .int .u64 0, .int .u64 0] := rfl
  obtain ⟨X, hX⟩ : ∃ X, (w.alloc (.cells #[.slice p1 ts.length c1, .slice p2 hs.length c2] 27)).alloc (.cells (tokC zTok).toArray 38) = X := ⟨_, rfl⟩
  have HX := hide hX
  rw [hX] at q0 q1 b0 sX
  have hT2 := hT.below b0
  have hH2 := hH.below b0
  have key : ∀ r, pIx (isT o n) ts = r → (r = -1 ∧ pKn ts o n = none) ∨ ∃ (j : Nat) (x : Tkn), r = (j : Int) ∧ ts[j]? = some x ∧ pKn ts o n = some x := fun r hr => by
    rcases pIx_find (isT o n) ts with ⟨h1, h2⟩ | ⟨j, x, h1, h2, h3, h4⟩
    · exact .inl ⟨by rw [← hr, h1], h2⟩
    · exact .inr ⟨j, x, by rw [← hr, h1], h2, h4⟩
  obtain ⟨r, hr⟩ : ∃ r, pIx (isT o n) ts = r := ⟨_, rfl⟩
  have K := hide (key r hr)
  rw [hr] at CP
  generalize pKn ts o n = KN at *
  unfold tkv at CP
  have HT := hide hT2
  have HH := hide hH2
  have HN := hide hn1
  clear key hr hT hH hX hT2 hH2 zt hn2
  go_enter Tryd.func15, Tryd.ntmps15
  go_upto_region 1 with fail
  change Code.wp _ _ _ _ ((w.alloc (.cells #[.slice p1 ts.length c1, .slice p2 hs.length c2] 27)).alloc (.cells (tokC zTok).toArray 38))
  rw [unhide HX]
  go_wp2_with (refine wpList_load_row rfl 27 (.tmp 3) rfl w.heap.size rfl 27 _ (0, 0) _ q0 Tryd.underlying27 rfl (by kernel_rfl) ?_)
  refine (unhide CP _ (unhide HT) (unhide HH)).mono ?_
  rintro e w1 ⟨rfl, b1⟩
  have p0 := Below.at b1 (by omega) q0
  have p1' := Below.at b1 (by omega) q1
  have b01 := b0.trans (b1.mono b0.size)
  have T1 := (unhide HT).below b1
  rcases unhide K with ⟨rfl, rfl⟩ | ⟨j, x, rfl, hx, rfl⟩
  · clear K CP HT HH q0 q1 b1 T1
    go_wp2_with (first
      | (refine wpList_build_two rfl 38 #[] rfl _ builtZ ?_)
      | (refine wpList_store_row rfl 38 (.tmp 6) (.tmp 16) rfl (w.heap.size + 1) (tokC zTok).toArray rfl rfl 38 _ p1' (tokSz _) rfl (tokOne _) ?_))
    exact bodyPost_ret (results_row_tmp rfl _ _ (w.heap.size + 1) _ _ _ _ rfl (setRow_heap _ _ _ _ _ _ p1') Tryd.underlying38 rfl (tokSz _)) rfl ⟨rfl, b01.trans (below_setRow (Below.refl _ _) (by omega) _)⟩
  · obtain ⟨b, off, rfl, hb, hr⟩ := EL.row tokC_len (by decide) T1 hx
    have hjl := (List.getElem?_eq_some_iff.1 hx).1
    have k0 : w1.cell? ⟨w.heap.size, 0, none⟩ = some (.slice (some ⟨b, off, none⟩) ts.length c1) := cell_of_row _ _ _ _ _ _ p0
    have d1 : decide ((j : Int) < 0) = false := by simp
    have d2 : (j : Int) < (ts.length : Int) := by omega
    have d3 : decide (j < ts.length) = true := by simpa using hjl
    have hsz : (Tryd.prog.info? 38).map (·.size) = some (tokC x).length := tokSz x
    have hon := tokOne x
    have hsr : ((tokC zTok).toArray).size = ((tokC x).toArray).size := rfl
    obtain ⟨C, hC⟩ : ∃ C, tokC x = C := ⟨_, rfl⟩
    have HC := hide hC
    rw [hC] at hr hsz hon hsr
    clear K CP HT HH q0 q1 b1 T1 hC hx
    go_wp2_with (first
      | (refine wpList_load_mid rfl 38 (.tmp 20) rfl b (off + j * 7) rfl C _ hr Tryd.underlying38 rfl hsz ?_)
      | (refine wpList_store_row rfl 38 (.tmp 6) (.tmp 21) rfl (w.heap.size + 1) C.toArray rfl rfl 38 _ p1' hsz hsr hon ?_))
    exact bodyPost_ret (results_row_tmp rfl _ _ (w.heap.size + 1) _ _ _ _ rfl (setRow_heap _ _ _ _ _ _ p1') Tryd.underlying38 rfl hsz) rfl ⟨by rw [← unhide HC]; rfl, b01.trans (below_setRow (Below.refl _ _) (by omega) _)⟩
end Go.Proofs.YtjfnaedcdmmigaaDoor

namespace Go.Proofs.YtjfnaedcdmmigaaDoor
open Go.RowKit

theorem wpQuiet_load_mid {P : Program} {ops : Array Oper} {C : World → Prop} {Q : Act → Prop} {a : Act} {o : Oper} {rest : List Oper} (hw : Region.wanted o (yielded ops a.tmps) = true) (ty : TypeId) (x : Operand) (ho : o.op = .load ty x)
    (b off : Nat) (hx : a.eval x = .pointer (some ⟨b, off, none⟩)) (cs : List Value) (d : TypeDesc) (hc : ∀ w, C w → w.rangeAt b off cs)
    (hu : P.underlying ty = some d) (hd : d.isRow = true) (hi : (P.info? ty).map (·.size) = some cs.length)
    (h : wpQuiet P ops C Q rest (a.put o.dst (.agg cs.toArray))) : wpQuiet P ops C Q (o :: rest) a := by
  show if _ then _ else _
  rw [if_pos hw]
  refine ⟨.agg cs.toArray, fun w hC => ?_, h⟩
  have hl := run_loadVar_mid w b off ty cs d (hc w hC) hu hd hi
  unfold Oper.quietAt execOp
  simp only [ho, hx, Instr.loadAt, Instr.sureAddr, Sem.run_bind, Sem.run_pure, Result.andThen_ok, hl]
  exact ⟨rfl, rfl⟩
theorem wpQuiet_eql {P : Program} {ops : Array Oper} {C : World → Prop} {Q : Act → Prop} {a : Act} {o : Oper} {rest : List Oper} (hw : Region.wanted o (yielded ops a.tmps) = true) (t t' : TypeId) (x y : Operand) (ho : o.op = .binOp .eql t x y t')
    (u v : Array Value) (hx : a.eval x = .agg u) (hy : a.eval y = .agg v) (hgt : P.eqGuardType P.depth t = false) (b : Bool) (he : ∀ w, (binOp .eql t (.agg u) (.agg v)).run P w = .ok (.bool b) w)
    (h : wpQuiet P ops C Q rest (a.put o.dst (.bool b))) : wpQuiet P ops C Q (o :: rest) a := by
  show if _ then _ else _
  rw [if_pos hw]
  refine ⟨.bool b, fun w hC => ?_, h⟩
  have hg : (eqGuard .eql t x y (.agg u) (.agg v)).run P w = .ok () w := run_eqGuard_agg w .eql t x y u v hgt
  unfold Oper.quietAt execOp
  simp only [ho, hx, hy, Sem.run_bind, hg, Result.andThen_ok, he]
  exact ⟨rfl, rfl⟩
end Go.Proofs.YtjfnaedcdmmigaaDoor

namespace Go.Proofs.YtjfnaedcdmmigaaDoor
open Go Go.RowKit
set_option linter.unusedSimpArgs false
set_option linter.unusedVariables false

/-- What the document asks of the token at a place. -/
def ordT (ts : List Tkn) (t : Tkn) : Nat → Bool
  | 0 => true
  | k + 1 => match ts[k]? with | some s => decide (pOrd s.o s.n t.o t.n < 0) | none => true
def okT (ts : List Tkn) (i : Nat) (t : Tkn) : Bool :=
  ordT ts t i && (pRight t.n && (decide (t.bu ≤ t.mi) && decide (t.ul ≤ t.lk)))
def rT (ts : List Tkn) : Bool := (List.range ts.length).all fun i => okT ts i (ts.getD i zTok)
theorem rT_true (ts : List Tkn) : (∀ i t, i < ts.length → ts[i]? = some t → okT ts i t = true) ↔ rT ts = true := by
  unfold rT
  rw [List.all_eq_true]
  constructor
  · intro h i hi
    have hi' := List.mem_range.1 hi
    exact h i _ hi' (by rw [List.getD_eq_getElem?_getD, List.getElem?_eq_getElem hi']; rfl)
  · intro h i t hi ht
    have := h i (List.mem_range.2 hi)
    rw [List.getD_eq_getElem?_getD, ht] at this
    exact this
theorem rangeAt_belowP2 {w w' : World} {B b off : Nat} {cs : List Value} (h : w.rangeAt b off cs) (hb : Below B w w') (hB : b < B) : w'.rangeAt b off cs := fun i v hv => by
  rw [hb.cell (p := ⟨b, off + i, none⟩) hB]; exact h i v hv
set_option maxHeartbeats 4000000 in
set_option maxRecDepth 100000 in
theorem rightToks_calls (ts : List Tkn) (hn1 : ts.length ≤ 1000) (hok : ∀ t ∈ ts, t.ok) (p : Option Addr) (c : Nat) (w : World) (hT : EL tokC w p ts) (hU : UTabs w) :
    Calls Tryd.prog 36 #[.slice p ts.length c] w fun e w' => e = .returned (.bool (rT ts)) ∧ Below w.heap.size w w' := by
  have hR := hide (rT_true ts)
  generalize rT ts = RR at *
  obtain ⟨n, hn⟩ : ∃ n, ts.length = n := ⟨_, rfl⟩
  rw [hn] at hn1 hR
  rw [hn]
  have HN := hide hn
  have HT := hide hT
  have HU := hide hU
  have HO := hide hok
  clear hT hU hok hn
  go_enter Tryd.func36, Tryd.ntmps36
  go_wp2
  go_loopw [3, 4, 7] (fun _ _ i wr => ∃ j : Nat, j ≤ n ∧ i = .int .i64 (j : Int) ∧ Below w.heap.size w wr ∧ Hid (∀ i t, i < j → ts[i]? = some t → okT ts i t = true)) (fun _ _ i _ => n - (intOf i).toNat)
  case atStart => exact ⟨0, by omega, rfl, Below.refl _ _, hide fun i t hi => absurd hi (Nat.not_lt_zero _)⟩
  case round =>
    obtain ⟨j, hj, rfl, hb, hyes⟩ := hrel
    by_cases hlt : j < n
    · have hd : decide (j < n) = true := by simpa using hlt
      have bk : (j : Int) < (n : Int) := by omega
      obtain ⟨y, hy⟩ : ∃ y, ts[j]? = some y := ⟨_, List.getElem?_eq_getElem (by rw [unhide HN]; exact hlt)⟩
      obtain ⟨b, off, rfl, hz1, hr1⟩ := EL.row tokC_len (by decide) ((unhide HT).below hb) hy
      have hyo : y.ok := unhide HO y (List.mem_of_getElem? hy)
      have hsz : (Tryd.prog.info? 38).map (·.size) = some (tokC y).length := tokSz y
      have hon := tokOne y
      have hsr : ((tokC zTok).toArray).size = ((tokC y).toArray).size := rfl
      have p1 := al1 wr (.cells (tokC zTok).toArray 38)
      -- the world behind the token's copy
      obtain ⟨V, hV⟩ : ∃ V, (wr.alloc (.cells (tokC zTok).toArray 38)).setRow wr.heap.size (tokC y).toArray = V := ⟨_, rfl⟩
      have HV := hide hV
      have vG : V.heap[wr.heap.size]? = some (.cells (tokC y).toArray 38 (0, 0)) := by rw [← hV]; exact setRow_heap _ _ _ _ _ _ p1
      have vb : Below wr.heap.size wr V := by rw [← hV]; exact below_setRow ((Below.refl _ _).alloc (Nat.le_refl _) _) (Nat.le_refl _) _
      have vB : Below w.heap.size w V := hb.trans (vb.mono hb.size)
      have VB := hide vB
      have VG := hide vG
      have zG : wr.heap.size < V.heap.size := (Array.getElem?_eq_some_iff.1 vG).1
      have cN : Hid (∀ W, Below V.heap.size V W → W.cell? ⟨wr.heap.size, 1, none⟩ = some (.string (str y.n)) ∧ W.cell? ⟨wr.heap.size, 3, none⟩ = some (.int .u64 (y.lk : Int)) ∧ W.cell? ⟨wr.heap.size, 4, none⟩ = some (.int .u64 (y.ul : Int)) ∧ W.cell? ⟨wr.heap.size, 5, none⟩ = some (.int .u64 (y.mi : Int)) ∧ W.cell? ⟨wr.heap.size, 6, none⟩ = some (.int .u64 (y.bu : Int))) := hide fun W hW => by
        have a := Below.at hW zG vG
        exact ⟨by rw [cell_of_row _ _ _ _ _ _ a]; rfl, by rw [cell_of_row _ _ _ _ _ _ a]; rfl, by rw [cell_of_row _ _ _ _ _ _ a]; rfl, by rw [cell_of_row _ _ _ _ _ _ a]; rfl, by rw [cell_of_row _ _ _ _ _ _ a]; rfl⟩
      have cR := hide fun W => right_calls y.n (by have := hyo.2.1; omega) W
      have kY := hide fun W => keyOf_calls y W
      -- what is asked of this token
      obtain ⟨ord, hord⟩ : ∃ ord : Bool, ordT ts y j = ord := ⟨_, rfl⟩
      have hokT : okT ts j y = (ord && (pRight y.n && (decide (y.bu ≤ y.mi) && decide (y.ul ≤ y.lk)))) := by rw [← hord]; rfl
      have hyes' : okT ts j y = true → Hid (∀ i t, i < j + 1 → ts[i]? = some t → okT ts i t = true) := fun h => hide fun i t hi ht => by
        by_cases he : i = j
        · rw [he] at ht ⊢; rw [hy] at ht; cases ht; exact h
        · exact unhide hyes i t (by omega) ht
      have hno : okT ts j y = false → RR = false := fun h => by
        cases hr : RR with
        | false => rfl
        | true => have := (unhide hR).2 hr j y hlt hy; rw [h] at this; cases this
      rw [hokT] at hyes' hno
      have HY := hide hyes'
      have HNO := hide hno
      have HORD := hide hord
      obtain ⟨C, hC⟩ : ∃ C, tokC y = C := ⟨_, rfl⟩
      have HC := hide hC
      rw [hC] at hr1 hsz hon hsr vG
      have HVC : Hid ((wr.alloc (.cells (tokC zTok).toArray 38)).setRow wr.heap.size C.toArray = V) := by rw [← hC]; exact HV
      have hyz : Hid (ts[j]? = some y) := hide hy
      clear hC hokT hyes' hno hord hV HV vB hb hyes hy
      go_wp2_with (first
        | (refine wpList_load_mid rfl 38 (.tmp 10) rfl b (off + j * 7) rfl C _ hr1 Tryd.underlying38 rfl hsz ?_)
        | (refine wpList_store_row rfl 38 (.tmp 4) (.tmp 11) rfl (wr.heap.size) C.toArray rfl rfl 38 _ p1 hsz hsr hon ?_))
      change Code.wp _ _ _ _ ((wr.alloc (.cells (tokC zTok).toArray 38)).setRow wr.heap.size C.toArray)
      rw [unhide HVC]
      clear HVC p1 hr1
      by_cases hj0 : j = 0
      · have ho : ord = true := by rw [← unhide HORD, hj0]; rfl
        subst ho
        have dz : decide ((0 : Int) < (j : Int)) = false := by simp [hj0]
        have dz2 : decide (0 < j) = false := by simp [hj0]
        clear HORD VG kY hR vG hsz hon hsr hj0
        go_wp2_with fail
        refine wp_region_below mixed (by kernel_rfl) ?_
        iterate 2 quiet_step (fail)
        repeat (go_big_quiet_step (fail))
        refine wpQuiet_nil ?_
        intro w3 b3
        have bV := hide ((unhide VB).trans (b3.mono (unhide VB).size))
        have ks := unhide cN w3 b3
        have kn := ks.1
        have bW := hide b3
        generalize hPR : pRight y.n = PR at *
        have HPR := hide hPR
        clear ks b3 hPR
        go_wp2_with fail
        refine (unhide cR w3).mono ?_
        rintro e w4 ⟨rfl, b4⟩
        have b4V := hide ((unhide bV).trans (b4.mono (unhide bV).size))
        obtain ⟨_, k3, k4, k5, k6⟩ := unhide cN w4 ((unhide bW).trans (b4.mono (unhide bW).size))
        clear b4 kn
        cases PR with
        | false =>
          have F := hide (unhide b4V)
          have hz := hide (unhide HNO (by simp))
          go_wp2
          go_ret
          exact ⟨by rw [unhide hz]; rfl, unhide F⟩
        | true =>
          by_cases h1 : y.mi < y.bu
          · have d1 : decide (y.mi < y.bu) = true := by simpa using h1
            have F := hide (unhide b4V)
            have hz := hide (unhide HNO (by simp; omega))
            go_wp2
            go_ret
            exact ⟨by rw [unhide hz]; rfl, unhide F⟩
          · have d1 : decide (y.mi < y.bu) = false := by simpa using h1
            by_cases h2 : y.lk < y.ul
            · have d2 : decide (y.lk < y.ul) = true := by simpa using h2
              have F := hide (unhide b4V)
              have hz := hide (unhide HNO (by simp; omega))
              go_wp2
              go_ret
              exact ⟨by rw [unhide hz]; rfl, unhide F⟩
            · have d2 : decide (y.lk < y.ul) = false := by simpa using h2
              have HYY := hide (unhide HY (by simp; omega))
              go_wp2
              go_roundw
              case rel => exact ⟨j + 1, by omega, by go_num, unhide b4V, unhide HYY⟩
              case measure => simp [intOf]; omega
      · obtain ⟨k, hk⟩ : ∃ k, j = k + 1 := ⟨j - 1, by omega⟩
        have dz : decide ((0 : Int) < (j : Int)) = true := by simp; omega
        have dz2 : decide (0 < j) = true := by simp; omega
        have ds : (j : Int) - 1 = (k : Int) := by omega
        have bk2 : (k : Int) < (n : Int) := by omega
        have hw : IntKind.i64.wrap (k : Int) = (k : Int) := by first | (rw [IntKind.wrap_i64]; omega) | go_num
        have dk : decide (k < n) = true := by simp; omega
        obtain ⟨s, hs⟩ : ∃ s, ts[k]? = some s := ⟨_, List.getElem?_eq_getElem (by rw [unhide HN]; omega)⟩
        have hso : s.ok := unhide HO s (List.mem_of_getElem? hs)
        obtain ⟨b', off', heq, hz2, hr2⟩ := EL.row tokC_len (by decide) ((unhide HT).below (unhide VB)) hs
        cases heq
        have hsz2 : (Tryd.prog.info? 38).map (·.size) = some (tokC s).length := tokSz s
        have hord' : ord = decide (pOrd s.o s.n y.o y.n < 0) := by rw [← unhide HORD, hk]; show (match ts[k]? with | some s => decide (pOrd s.o s.n y.o y.n < 0) | none => true) = _; rw [hs]
        have hszY : (Tryd.prog.info? 38).map (·.size) = some C.toArray.size := by simpa using hsz
        have kS := hide fun d os => Calls.regrown_of (w := V) (d := d) (os := os) (keyOf_calls s _)
        have kY' := hide fun d os => Calls.regrown_of (w := V) (d := d) (os := os) (unhide kY _)
        have kO := hide fun d os => Calls.regrown_of (w := V) (d := d) (os := os) (tokOrder_calls s.o s.n y.o y.n hso.2.1 hyo.2.1 _ (((unhide HU).below' (unhide VB)).below' (below_regrown V d os)))
        rw [unhide HC] at kY'
        have R0 : Hid (∀ w', (∃ p : Regrown, w' = Sort.grow (redrawn V p.d) p.os) → w'.heap[wr.heap.size]? = some (.cells C.toArray 38 (0, 0))) := hide fun w' ⟨p, hp⟩ => by rw [hp]; exact Below.at (below_regrown V p.d p.os) zG vG
        have R1 : Hid (∀ w', (∃ p : Regrown, w' = Sort.grow (redrawn V p.d) p.os) → w'.rangeAt b (off + k * 7) (tokC s)) := hide fun w' ⟨p, hp⟩ => by rw [hp]; exact rangeAt_belowP2 hr2 (below_regrown V p.d p.os) hz2
        generalize pOrd s.o s.n y.o y.n = R at *
        generalize tkv s.o s.n = TS at *
        generalize tkv y.o y.n = TY at *
        generalize tokC s = S at *
        clear HORD VG kY hR vG hsz hon hsr hr2 hs hso
        go_wp2_with fail
        refine wp_region_below mixed (by kernel_rfl) ?_
        iterate 7 quiet_step (fail)
        refine wpQuiet_load_mid rfl 38 (.tmp 18) rfl b (off + k * 7) rfl S _ (unhide R1) Tryd.underlying38 rfl hsz2 ?_
        quiet_step (exact unhide kS _ _)
        refine wpQuiet_load_row rfl 38 (.tmp 4) rfl wr.heap.size rfl 38 C.toArray (0, 0) _ (unhide R0) Tryd.underlying38 rfl hszY ?_
        quiet_step (exact unhide kY' _ _)
        quiet_step (exact unhide kO _ _)
        iterate 2 quiet_step (fail)
        refine wpQuiet_nil ?_
        intro w3 b3
        clear kS kY' kO R0 R1
        by_cases hge : 0 ≤ R
        · have dg : decide (0 ≤ R) = true := by simpa using hge
          have ho : ord = false := by rw [hord']; simpa using hge
          subst ho
          have F := hide ((unhide VB).trans (b3.mono (unhide VB).size))
          have hz := hide (unhide HNO (by simp))
          go_wp2
          go_ret
          exact ⟨by rw [unhide hz]; rfl, unhide F⟩
        · have dg : decide (0 ≤ R) = false := by simpa using hge
          have ho : ord = true := by rw [hord']; simp; omega
          subst ho
          clear hord'
          have bV := hide ((unhide VB).trans (b3.mono (unhide VB).size))
          have ks := unhide cN w3 b3
          have kn := ks.1
          have bW := hide b3
          generalize hPR : pRight y.n = PR at *
          have HPR := hide hPR
          clear ks b3 hPR
          go_wp2_with fail
          refine (unhide cR w3).mono ?_
          rintro e w4 ⟨rfl, b4⟩
          have b4V := hide ((unhide bV).trans (b4.mono (unhide bV).size))
          obtain ⟨_, k3, k4, k5, k6⟩ := unhide cN w4 ((unhide bW).trans (b4.mono (unhide bW).size))
          clear b4 kn
          cases PR with
          | false =>
            have F := hide (unhide b4V)
            have hz := hide (unhide HNO (by simp))
            go_wp2
            go_ret
            exact ⟨by rw [unhide hz]; rfl, unhide F⟩
          | true =>
            by_cases h1 : y.mi < y.bu
            · have d1 : decide (y.mi < y.bu) = true := by simpa using h1
              have F := hide (unhide b4V)
              have hz := hide (unhide HNO (by simp; omega))
              go_wp2
              go_ret
              exact ⟨by rw [unhide hz]; rfl, unhide F⟩
            · have d1 : decide (y.mi < y.bu) = false := by simpa using h1
              by_cases h2 : y.lk < y.ul
              · have d2 : decide (y.lk < y.ul) = true := by simpa using h2
                have F := hide (unhide b4V)
                have hz := hide (unhide HNO (by simp; omega))
                go_wp2
                go_ret
                exact ⟨by rw [unhide hz]; rfl, unhide F⟩
              · have d2 : decide (y.lk < y.ul) = false := by simpa using h2
                have HYY := hide (unhide HY (by simp; omega))
                go_wp2
                go_roundw
                case rel => exact ⟨j + 1, by omega, by go_num, unhide b4V, unhide HYY⟩
                case measure => simp [intOf]; omega
    · have hd : decide (j < n) = false := by simpa using hlt
      have hr : RR = true := (unhide hR).1 fun i t hi ht => unhide hyes i t (by omega) ht
      have F := hide hb
      clear hb
      go_wp2
      go_ret
      exact ⟨by rw [hr]; rfl, unhide F⟩
end Go.Proofs.YtjfnaedcdmmigaaDoor

namespace Go.Proofs.YtjfnaedcdmmigaaDoor
open Go Go.RowKit
set_option linter.unusedSimpArgs false
set_option linter.unusedVariables false

/-- How much somebody holds. -/
def pHe (hs : List Hol) (o : Nat) (n a : List UInt8) : Nat := ((hs.find? (isH o n a)).map (·.a)).getD 0
theorem pHe_none {hs : List Hol} {o : Nat} {n a : List UInt8} (h : hs.find? (isH o n a) = none) : pHe hs o n a = 0 := by unfold pHe; rw [h]; rfl
theorem pHe_some {hs : List Hol} {o : Nat} {n a : List UInt8} {x : Hol} (h : hs.find? (isH o n a) = some x) : pHe hs o n a = x.a := by unfold pHe; rw [h]; rfl
set_option maxHeartbeats 1000000 in
set_option maxRecDepth 100000 in
theorem held_calls (ts : List Tkn) (hs : List Hol) (hn1 : ts.length ≤ 1000) (hn2 : hs.length ≤ 1000) (v : Value) (o : Nat) (n a : List UInt8) (w : World) (hP : PM w v ts hs) :
    Calls Tryd.prog 55 #[v, .agg (hkv o n a)] w fun e w' => e = .returned (.int .u64 (pHe hs o n a : Int)) ∧ Below w.heap.size w w' := by
  obtain ⟨p1, c1, p2, c2, rfl, hT, hH⟩ := hP
  obtain ⟨q0, q1⟩ := al2 w (.cells #[.slice p1 ts.length c1, .slice p2 hs.length c2] 27) (.cells (hkv o n a) 81)
  have b0 := bel2 w (.cells #[.slice p1 ts.length c1, .slice p2 hs.length c2] 27) (.cells (hkv o n a) 81)
  have sX : ((w.alloc (.cells #[.slice p1 ts.length c1, .slice p2 hs.length c2] 27)).alloc (.cells (hkv o n a) 81)).heap.size = w.heap.size + 1 + 1 := by simp
  have CP := hide fun W x y => holPlace_calls ts hs hn1 hn2 p1 p2 c1 c2 o n a W x y
  have hik := hkInfo o n a
  obtain ⟨X, hX⟩ : ∃ X, (w.alloc (.cells #[.slice p1 ts.length c1, .slice p2 hs.length c2] 27)).alloc (.cells (hkv o n a) 81) = X := ⟨_, rfl⟩
  have HX := hide hX
  rw [hX] at q0 q1 b0 sX
  have hT2 := hT.below b0
  have hH2 := hH.below b0
  have key : ∀ r, pIx (isH o n a) hs = r → (r = -1 ∧ pHe hs o n a = 0) ∨ ∃ (j : Nat) (x : Hol), r = (j : Int) ∧ hs[j]? = some x ∧ pHe hs o n a = x.a := fun r hr => by
    rcases pIx_find (isH o n a) hs with ⟨h1, h2⟩ | ⟨j, x, h1, h2, h3, h4⟩
    · exact .inl ⟨by rw [← hr, h1], pHe_none h2⟩
    · exact .inr ⟨j, x, by rw [← hr, h1], h2, pHe_some h4⟩
  obtain ⟨r, hr⟩ : ∃ r, pIx (isH o n a) hs = r := ⟨_, rfl⟩
  have K := hide (key r hr)
  rw [hr] at CP
  generalize pHe hs o n a = KN at *
  generalize hkv o n a = HK at *
  have HT := hide hT2
  have HH := hide hH2
  have HN := hide hn2
  clear key hr hT hH hX hT2 hH2 hn1 hn2
  go_enter Tryd.func55, Tryd.ntmps55
  go_upto_region 1 with fail
  change Code.wp _ _ _ _ ((w.alloc (.cells #[.slice p1 ts.length c1, .slice p2 hs.length c2] 27)).alloc (.cells HK 81))
  rw [unhide HX]
  go_wp2_with (first
    | (refine wpList_load_row rfl 27 (.tmp 2) rfl w.heap.size rfl 27 _ (0, 0) _ q0 Tryd.underlying27 rfl (by kernel_rfl) ?_)
    | (refine wpList_load_row rfl 81 (.tmp 3) rfl (w.heap.size + 1) rfl 81 _ (0, 0) _ q1 Tryd.underlying81 rfl hik ?_))
  refine (unhide CP _ (unhide HT) (unhide HH)).mono ?_
  rintro e w1 ⟨rfl, b1⟩
  have p0 := Below.at b1 (by omega) q0
  have b01 := b0.trans (b1.mono b0.size)
  have T1 := (unhide HH).below b1
  rcases unhide K with ⟨rfl, rfl⟩ | ⟨j, x, rfl, hx, rfl⟩
  · clear K CP HT HH q0 q1 b1 T1
    go_wp2
    go_ret
    exact ⟨rfl, b01⟩
  · obtain ⟨b, off, rfl, hb, hr⟩ := EL.row holC_len (by decide) T1 hx
    have hjl := (List.getElem?_eq_some_iff.1 hx).1
    have k0 : w1.cell? ⟨w.heap.size, 1, none⟩ = some (.slice (some ⟨b, off, none⟩) hs.length c2) := cell_of_row _ _ _ _ _ _ p0
    have d1 : decide ((j : Int) < 0) = false := by simp
    have d2 : (j : Int) < (hs.length : Int) := by omega
    have d3 : decide (j < hs.length) = true := by simpa using hjl
    have k3 : w1.cell? ⟨b, off + j * 4 + 3, none⟩ = some (.int .u64 (x.a : Int)) := hr 3 _ rfl
    clear K CP HT HH q0 q1 b1 T1 hx hr p0
    go_wp2
    go_ret
    exact ⟨rfl, b01⟩
set_option maxRecDepth 100000 in
theorem heldN_calls (ts : List Tkn) (hs : List Hol) (hn1 : ts.length ≤ 1000) (hn2 : hs.length ≤ 1000) (v : Value) (o : Nat) (n a : List UInt8) (w : World) (hP : PM w v ts hs) :
    Calls Tryd.prog 27 #[v, .int .u32 (o : Int), .string (str n), .string (str a)] w fun e w' => e = .returned (.int .u64 (pHe hs o n a : Int)) ∧ Below w.heap.size w w' := by
  obtain ⟨p1, c1, p2, c2, rfl, hT, hH⟩ := hP
  have q0 := al1 w (.cells #[.slice p1 ts.length c1, .slice p2 hs.length c2] 27)
  have b0 : Below w.heap.size w (w.alloc (.cells #[.slice p1 ts.length c1, .slice p2 hs.length c2] 27)) := (Below.refl _ _).alloc (Nat.le_refl _) _
  have CP := hide (held_calls ts hs hn1 hn2 _ o n a (w.alloc (.cells #[.slice p1 ts.length c1, .slice p2 hs.length c2] 27)) ⟨p1, c1, p2, c2, rfl, hT.below b0, hH.below b0⟩)
  generalize pHe hs o n a = KN at *
  unfold hkv at CP
  clear hT hH
  go_enter Tryd.func27, Tryd.ntmps27
  go_wp2_with (refine wpList_load_row rfl 27 (.tmp 4) rfl w.heap.size rfl 27 _ (0, 0) _ q0 Tryd.underlying27 rfl (by kernel_rfl) ?_)
  refine (unhide CP).mono ?_
  rintro e w1 ⟨rfl, b1⟩
  clear CP q0
  go_wp2
  go_ret
  exact ⟨rfl, b0.trans (b1.mono b0.size)⟩
end Go.Proofs.YtjfnaedcdmmigaaDoor

namespace Go.Proofs.YtjfnaedcdmmigaaDoor
open Go.RowKit
set_option linter.unusedSimpArgs false
set_option linter.unusedVariables false

/-- Bytes lie in memory from a place on. -/
def Bytes (w : World) (g off : Nat) (l : List UInt8) : Prop := ∀ j, j < l.length → w.cell? ⟨g, off + j, none⟩ = some (.int .u8 ((l.getD j 0).toNat : Int))
theorem Bytes.below {B g off : Nat} {l : List UInt8} {w w' : World} (h : Bytes w g off l) (hb : Below B w w') (hg : g < B) : Bytes w' g off l := fun j hj => by
  rw [hb.cell (p := ⟨g, off + j, none⟩) hg]; exact h j hj

theorem Bytes.take {w : World} {g off : Nat} {l : List UInt8} (h : Bytes w g off l) (n : Nat) : Bytes w g off (l.take n) := fun j hj => by
  have hj' : j < n ∧ j < l.length := by simp at hj; omega
  rw [h j hj'.2]
  simp [hj'.1]
theorem Bytes.drop {w : World} {g off : Nat} {l : List UInt8} (h : Bytes w g off l) (n : Nat) : Bytes w g (off + n) (l.drop n) := fun j hj => by
  have hj' : n + j < l.length := by simp at hj; omega
  rw [show off + n + j = off + (n + j) by omega, h _ hj']
  simp
def bcap (w : World) (l : List UInt8) : Nat := grownCap w l.length 0 5
def bworld (w : World) (l : List UInt8) : World := w.drew.alloc (.cells (bytesRow (str l) (bcap w l)) 5 ((bytesRow (str l) (bcap w l)).size, (bytesRow (str l) (bcap w l)).size + 1))
theorem conv_run (l : List UInt8) (w : World) : (convert 9 167 (.string (str l))).run Tryd.prog w = .ok (.slice (some ⟨w.heap.size, 0, none⟩) l.length (bcap w l)) (bworld w l) := by
  have := run_bytes_of_string (P := Tryd.prog) w 9 167 5 (str l) Tryd.underlying9 Tryd.underlying167 Tryd.underlying5
  rw [str_size] at this
  exact this
theorem bworld_size (w : World) (l : List UInt8) : (bworld w l).heap.size = w.heap.size + 1 := by simp [bworld]
theorem bworld_below {B : Nat} {W w : World} (l : List UInt8) (h : Below B W w) (hB : B ≤ w.heap.size) : Below B W (bworld w l) := (h.drew).alloc hB _
theorem bworld_bytes (w : World) (l : List UInt8) : Bytes (bworld w l) w.heap.size 0 l := fun j hj => by
  have h : (bworld w l).heap[w.heap.size]? = some (.cells (bytesRow (str l) (bcap w l)) 5 ((bytesRow (str l) (bcap w l)).size, (bytesRow (str l) (bcap w l)).size + 1)) := al1 w.drew _
  rw [cell_of_row _ _ _ _ _ _ h, Nat.zero_add, bytesRow_at _ _ _ (by simpa [str] using hj)]
  simp [str, hj]
theorem bcap_ge (w : World) (l : List UInt8) : l.length ≤ bcap w l := grownCap_ge _ _ _ _
theorem bcap_le (w : World) (l : List UInt8) (h : l.length ≤ maxLen) : bcap w l ≤ maxLen := grownCap_le_maxLen _ _ _ _ h
theorem bworld_kept {w w' : World} {l : List UInt8} (hb : Below (bworld w l).heap.size (bworld w l) w') : Hid (Bytes w' w.heap.size 0 l) ∧ w.heap.size < w'.heap.size := by
  have hz := hb.size
  have h1 := bworld_size w l
  exact ⟨(bworld_bytes w l).below hb (by omega), by omega⟩
theorem bworld_kept_drew {w w' : World} {l : List UInt8} (hb : Below (bworld w l).drew.heap.size (bworld w l).drew w') : Hid (Bytes w' w.heap.size 0 l) ∧ w.heap.size < w'.heap.size :=
  bworld_kept (l := l) ⟨hb.os, hb.tape, hb.output, hb.size, hb.block⟩
end Go.Proofs.YtjfnaedcdmmigaaDoor

namespace Go.Proofs.YtjfnaedcdmmigaaDoor
open Go.RowKit
set_option linter.unusedSimpArgs false
set_option linter.unusedVariables false

/-- A list with another one written over it from a place on. -/
def putAt (L : List UInt8) (o : Nat) (D : List UInt8) : List UInt8 := L.take o ++ D ++ L.drop (o + D.length)
theorem putAt_length (L : List UInt8) (o : Nat) (D : List UInt8) (h : o + D.length ≤ L.length) : (putAt L o D).length = L.length := by
  unfold putAt; simp; omega
theorem putAt_zeros (A D : List UInt8) (n o : Nat) (ho : o = A.length) (h : D.length ≤ n) : putAt (A ++ List.replicate n 0) o D = A ++ D ++ List.replicate (n - D.length) 0 := by
  subst ho
  unfold putAt
  rw [List.take_left, ← List.drop_drop, List.drop_left, List.drop_replicate]
theorem setCells_heap (g : Nat) (t : TypeId) : ∀ (vs : List Value) (o : Nat) (C : Array Value) (w : World), w.heap[g]? = some (.cells C t (0, 0)) → o + vs.length ≤ C.size →
    (w.setCells g o vs).heap[g]? = some (.cells (C.toList.take o ++ vs ++ C.toList.drop (o + vs.length)).toArray t (0, 0)) ∧ (∀ k, k ≠ g → (w.setCells g o vs).heap[k]? = w.heap[k]?) ∧ (w.setCells g o vs).heap.size = w.heap.size ∧ (∀ B, B ≤ g → Below B w (w.setCells g o vs))
  | [], o, C, w, hg, h => by
    refine ⟨?_, fun _ _ => rfl, rfl, fun B _ => Below.refl B w⟩
    show w.heap[g]? = _
    rw [hg]
    simp
  | v :: vs, o, C, w, hg, h => by
    have h1 := heap_setCell_same w g o C t v hg
    have hsz : (C.setIfInBounds o v).size = C.size := by simp
    have hlt : o < C.size := by simp at h; omega
    obtain ⟨r1, r2, r3, r4⟩ := setCells_heap g t vs (o + 1) (C.setIfInBounds o v) (w.setCell ⟨g, o, none⟩ v) h1 (by rw [hsz]; simp at h; omega)
    have e : w.setCells g o (v :: vs) = (w.setCell ⟨g, o, none⟩ v).setCells g (o + 1) vs := rfl
    rw [e]
    refine ⟨?_, ?_, ?_, ?_⟩
    · rw [r1]
      congr 2
      have e1 : (C.setIfInBounds o v).toList = C.toList.set o v := by simp
      rw [e1]
      have e2 : C.toList.set o v = C.toList.take o ++ v :: C.toList.drop (o + 1) := List.set_eq_take_append_cons_drop.trans (by simp [hlt])
      rw [e2]
      have e3 : (C.toList.take o).length = o := by simp; omega
      rw [show o + 1 = (C.toList.take o ++ [v]).length by simp; omega, show C.toList.take o ++ v :: C.toList.drop (C.toList.take o ++ [v]).length = (C.toList.take o ++ [v]) ++ C.toList.drop (C.toList.take o ++ [v]).length by simp, List.take_left]
      rw [← List.drop_drop, List.drop_left, List.drop_drop]
      simp only [List.append_assoc, List.cons_append, List.nil_append, List.length_append, List.length_cons, List.length_nil, e3]
      rw [show o + (0 + 1) + vs.length = o + (vs.length + 1) by omega]
    · intro k hk
      rw [r2 k hk]
      exact Below.heap_setCell w ⟨g, o, none⟩ v k hk
    · rw [r3]; simp [World.setCell]
    · intro B hB
      exact ((Below.refl B w).setCell (p := ⟨g, o, none⟩) hB v).trans (r4 B hB)
theorem bc_put (L D : List UInt8) (o : Nat) : ((bc L).toList.take o ++ (bc D).toList ++ (bc L).toList.drop (o + (bc D).toList.length)).toArray = bc (putAt L o D) := by
  unfold bc putAt Lib.byteCells
  simp [List.map_take, List.map_drop]
theorem bc_there (w : World) (g o n : Nat) (L : List UInt8) (t : TypeId) (hg : w.heap[g]? = some (.cells (bc L) t (0, 0))) (h : o + n ≤ L.length) : w.there g o n := by
  intro j hj
  refine ⟨?_, frozen_of_row _ _ _ _ _ hg⟩
  rw [cell_of_row _ _ _ _ _ _ hg, bc_at _ _ (by omega)]; rfl
/-- A store of bytes into the middle of a block of bytes. -/
theorem wpList_store_at {P : Program} {ops : Array Oper} {rest : List Oper} {op : Oper} {a : Act} {w : World} {Q : Exit → Act → World → Prop} (hgd : op.guard = none) (ty : TypeId) (x y : Operand) (ho : op.op = .store ty x y)
    (g o : Nat) (L D : List UInt8) (t : TypeId) (hx : a.eval x = .pointer (some ⟨g, o, none⟩)) (hy : a.eval y = .agg (bc D)) (hg : w.heap[g]? = some (.cells (bc L) t (0, 0))) (hle : o + D.length ≤ L.length)
    (hi : (P.info? ty).map (·.size) = some (bc D).size)
    (h : ∀ w', w'.heap[g]? = some (.cells (bc (putAt L o D)) t (0, 0)) → (∀ k, k ≠ g → w'.heap[k]? = w.heap[k]?) → w'.heap.size = w.heap.size → (∀ B, B ≤ g → Below B w w') → wpList P ops Q rest (a.put op.dst undef) w') :
    wpList P ops Q (op :: rest) a w := by
  refine wpList_store_mid hgd ty x y ho g o (bc D) hx hy (bc_there w g o _ L t hg (by rw [bc_size]; exact hle)) hi (bc_oneCell D) ?_
  obtain ⟨r1, r2, r3, r4⟩ := setCells_heap g t (bc D).toList o (bc L) w hg (by rw [bc_size]; simpa using hle)
  rw [bc_put] at r1
  exact h _ r1 r2 r3 r4
/-- A part of a block of bytes, as a range. -/
theorem bc_range (w : World) (g o n : Nat) (L : List UInt8) (t : TypeId) (hg : w.heap[g]? = some (.cells (bc L) t (0, 0))) : w.rangeAt g o (Lib.byteCells ((L.drop o).take n)) := by
  have := World.rangeAt_of_block hg o n
  have e : ((bc L).extract o (o + n)).toList = Lib.byteCells ((L.drop o).take n) := by
    unfold bc Lib.byteCells
    simp [List.map_take, List.map_drop, List.extract_eq_take_drop]
  rw [e] at this
  exact this
end Go.Proofs.YtjfnaedcdmmigaaDoor
