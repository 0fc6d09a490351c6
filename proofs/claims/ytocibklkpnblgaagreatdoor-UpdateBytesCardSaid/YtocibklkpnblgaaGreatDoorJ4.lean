/-
  WHAT sha.wordAt AND sha.schedule RETURN.
-/
/-
  WHAT A BLOCK DOES TO THE EIGHT WORDS. Plain definitions and lemmas.
-/
/-
  WHAT sha.Block RETURNS.
-/
/-
  STATES, PADDING, SUMS AS LISTS OF BYTES. Plain definitions and lemmas.
-/
/-
  WHAT sha.through RETURNS.
-/
/-
  WHAT sha's Begin AND Add RETURN.
-/
/-
  BYTES AS CELLS OF MEMORY; numbers of eight bytes, the highest first. Plain definitions and lemmas.
-/
/-
  WHAT sha.padding RETURNS.
-/
/-
  WHAT sha's End RETURNS.
-/
/-
  WHAT sha.Sum RETURNS.
-/
import Derived.Test.YtocibklkpnblgaaGreatDoorJ3
import Derived.Test.YtocibklkpnblgaaGreatDoorJ0
import Derived.StillTailTactics
import Derived.Laws.CopyOwn
import Derived.Lib.Strings
import Derived.Test.YtocibklkpnblgaaGreatDoorJ1
import Derived.Deep.RegionHeld3
import Derived.Deep.DeepCutAuto
namespace Go.Proofs.YtocibklkpnblgaaGreatDoor
open Go.RowKit
set_option linter.unusedSimpArgs false
set_option linter.unusedVariables false

set_option maxHeartbeats 400000 in
theorem wordAt_calls (s : ByteArray) (k : Int) (h0 : 0 ≤ k) (h : k + 3 < s.size) (hs : s.size ≤ maxLen) (w : World) :
    Calls Tryz.prog 95 #[.string s, .int .i64 k] w fun e w' => e = .returned (.int .u32 (wAt s.data.toList k.toNat).toNat) ∧ ∃ n, w' = w.drewN n := by
  obtain ⟨k, rfl⟩ := Int.eq_ofNat_of_zero_le h0
  unfold maxLen at hs
  have h0 : (k : Int) < s.size := by omega
  have h1 : (0:Int) ≤ k + 1 ∧ (k : Int) + 1 < s.size := by omega
  have h2 : (0:Int) ≤ k + 2 ∧ (k : Int) + 2 < s.size := by omega
  have h3 : (0:Int) ≤ k + 3 ∧ (k : Int) + 3 < s.size := by omega
  have w1 := wi64 (k + 1) (by omega) (by omega)
  have w2 := wi64 (k + 2) (by omega) (by omega)
  have w3 := wi64 (k + 3) (by omega) (by omega)
  go_enter Tryz.func95, Tryz.ntmps95
  go_wp2
  go_quiet (fail)
  go_wp2
  go_ret
  refine ⟨?_, _, rfl⟩
  have e := word_or s[k] s[k + 1] s[k + 2] s[k + 3]
  refine Eq.trans (congrArg (fun x => Ending.returned (.int .u32 x)) e) ?_
  rw [byte_at s k (by omega), byte_at s (k + 1) (by omega), byte_at s (k + 2) (by omega), byte_at s (k + 3) (by omega)]
  rfl

theorem row_set (w : World) (g : Nat) (ws zs : List (BitVec 32)) (z x : BitVec 32) (i : Nat) (t : TypeId) (n : Nat) (hg : w.heap[g]? = some (.cells (wc (ws ++ z :: zs)) t (0, 0))) (hi : i = ws.length) :
    ((w.drewN n).setCell ⟨g, i, none⟩ (.int .u32 (x.toNat : Int))).heap[g]? = some (.cells (wc (ws ++ [x] ++ zs)) t (0, 0)) := by
  rw [heap_setCell_same (w.drewN n) g i _ t _ hg, wc_set ws zs z x i hi]
theorem row_other (w : World) (a : Addr) (k n : Nat) (v : Value) (o : Option Obj) (hg : w.heap[k]? = o) (h : k ≠ a.block) : ((w.drewN n).setCell a v).heap[k]? = o := by
  rw [heap_setCell_other (w.drewN n) a k v h]; exact hg

set_option maxHeartbeats 1000000 in
set_option maxRecDepth 100000 in
theorem schedule_calls (s : ByteArray) (hs : s.size = 64) (w : World) :
    Calls Tryz.prog 90 #[.string s] w fun e w' => e = .returned (.agg (wc (sched s.data.toList))) ∧ Below w.heap.size w w' := by
  go_enter Tryz.func90, Tryz.ntmps90
  go_wp2
  go_loopw [4, 6] (fun _ i wr => ∃ k : Nat, k ≤ 16 ∧ i = .int .i64 k ∧ Below w.heap.size w wr ∧ wr.heap.size = w.heap.size + 2 ∧ wr.heap[w.heap.size + 1]? = some (.cells (wc (sched16 s.data.toList k ++ List.replicate (64 - k) 0)) 144 (0, 0)) ∧ wr.heap[w.heap.size]? = some (.cells (wc (List.replicate 64 0)) 144 (0, 0))) (fun _ i _ => 16 - (intOf i).toNat)
  case atStart =>
    exact ⟨0, by omega, rfl, ((Below.refl _ _).alloc (Nat.le_refl _) _).alloc (by simp) _, by simp, heap_alloc2_new _ _ _, heap_alloc2_old _ _ _⟩
  case round =>
    obtain ⟨k, hk, rfl, hb, hz, hc, hr⟩ := hrel
    by_cases hlt : k < 16
    · have hlen : (sched16 s.data.toList k ++ List.replicate (64 - k) (0 : BitVec 32)).length = 64 := by simp [sched16_length]; omega
      have hcell : wr.cell? ⟨w.heap.size + 1, k, none⟩ = some (.int .u32 (((sched16 s.data.toList k ++ List.replicate (64 - k) (0 : BitVec 32)).getD k 0).toNat : Int)) := by
        rw [cell_of_row _ _ _ _ _ _ hc]; exact wc_at _ _ (by rw [hlen]; omega)
      have hfz : wr.frozen? ⟨w.heap.size + 1, k, none⟩ = false := frozen_of_row _ _ _ _ _ hc
      go_wp2_with (go_at_call 95; refine (wordAt_calls _ _ (by omega) (by omega) (by unfold maxLen; omega) _).mono ?_; rintro e w1 ⟨rfl, n1, rfl⟩)
      go_roundw
      case rel =>
        refine ⟨k + 1, by omega, by go_num, ?_, ?_, ?_, ?_⟩
        · exact (below_drewN hb _).setCell (by simp) _
        · simpa using hz
        · have e : List.replicate (64 - k) (0 : BitVec 32) = 0 :: List.replicate (64 - (k + 1)) 0 := by rw [show 64 - k = (64 - (k + 1)) + 1 by omega]; rfl
          rw [e] at hc
          rw [sched16_succ]
          exact row_set _ _ _ _ _ _ _ _ _ hc (sched16_length _ _).symm
        · exact row_other _ _ _ _ _ _ hr (by simp)
      case measure => simp [intOf]; omega
    · have hc' : wr.heap[w.heap.size + 1]? = some (.cells (wc (schedN s.data.toList 0 ++ List.replicate (48 - 0) 0)) 144 (0, 0)) := by
        rw [hc, show k = 16 by omega]; rfl
      have hd : decide ((k : Int) < 16) = false := by simp; omega
      clear hc
      go_wp2
      go_loopw [5] (fun i wr => ∃ k : Nat, k ≤ 48 ∧ i = .int .i64 (16 + k : Nat) ∧ Below w.heap.size w wr ∧ wr.heap.size = w.heap.size + 2 ∧ wr.heap[w.heap.size + 1]? = some (.cells (wc (schedN s.data.toList k ++ List.replicate (48 - k) 0)) 144 (0, 0)) ∧ wr.heap[w.heap.size]? = some (.cells (wc (List.replicate 64 0)) 144 (0, 0))) (fun i _ => 64 - (intOf i).toNat)
      case atStart => exact ⟨0, by omega, rfl, hb, hz, hc', hr⟩
      case round =>
        clear hb hz hr hc'
        obtain ⟨k, hk, rfl, hb, hz, hc, hr⟩ := hrel
        by_cases hlt : k < 48
        · generalize hn : 16 + k = n
          have hlen : (schedN s.data.toList k ++ List.replicate (48 - k) (0 : BitVec 32)).length = 64 := by simp [schedN_length]; omega
          have hcell : ∀ j, j < 64 → wr.cell? ⟨w.heap.size + 1, j, none⟩ = some (.int .u32 (((schedN s.data.toList k ++ List.replicate (48 - k) (0 : BitVec 32)).getD j 0).toNat : Int)) := fun j hj => by
            rw [cell_of_row _ _ _ _ _ _ hc]; exact wc_at _ _ (by rw [hlen]; omega)
          have hget : ∀ j, j < n → ∃ x : BitVec 32, Hid ((schedN s.data.toList k).getD j 0 = x) ∧ wr.cell? ⟨w.heap.size + 1, j, none⟩ = some (.int .u32 (x.toNat : Int)) := fun j hj =>
            ⟨_, rfl, by rw [hcell j (by omega), List.getD_eq_getElem?_getD, List.getElem?_append_left (by rw [schedN_length]; omega), ← List.getD_eq_getElem?_getD]⟩
          have hfz : wr.frozen? ⟨w.heap.size + 1, n, none⟩ = false := frozen_of_row _ _ _ _ _ hc
          have c0 := hcell n (by omega)
          obtain ⟨x2, e2, c2⟩ := hget (n - 2) (by omega)
          obtain ⟨x7, e7, c7⟩ := hget (n - 7) (by omega)
          obtain ⟨x15, e15, c15⟩ := hget (n - 15) (by omega)
          obtain ⟨x16, e16, c16⟩ := hget (n - 16) (by omega)
          have am := a_mod
          have aw := a_wrap
          have b0 : (0:Int) ≤ n ∧ (n : Int) < 64 := by omega
          have b2 : (2:Int) ≤ n ∧ (n : Int) - 2 < 64 := by omega
          have t2 : ((n : Int) - 2).toNat = n - 2 := by omega
          have b7 : (7:Int) ≤ n ∧ (n : Int) - 7 < 64 := by omega
          have t7 : ((n : Int) - 7).toNat = n - 7 := by omega
          have b15 : (15:Int) ≤ n ∧ (n : Int) - 15 < 64 := by omega
          have t15 : ((n : Int) - 15).toNat = n - 15 := by omega
          have b16 : (16:Int) ≤ n ∧ (n : Int) - 16 < 64 := by omega
          have t16 : ((n : Int) - 16).toNat = n - 16 := by omega
          have w2 := wi64 (n - 2) (by omega) (by omega)
          have w7 := wi64 (n - 7) (by omega) (by omega)
          have w15 := wi64 (n - 15) (by omega) (by omega)
          have w16 := wi64 (n - 16) (by omega) (by omega)
          have Hn := hide hn
          clear hn hcell hget
          go_wp2
          refine wp_region_still_tail 23 mixed (by kernel_rfl) ?_
          simp only [List.take_succ_cons, List.take_zero, List.drop_succ_cons, List.drop_zero]
          iterate 5 still_step
          still_call (smallOne_calls _ _)
          iterate 9 still_step
          still_call (smallZero_calls _ _)
          iterate 7 still_step
          refine wpStill_nil ?_
          go_wp2
          go_roundw
          case rel =>
            have hn := unhide Hn
            have hx : schedNext (schedN s.data.toList k) = addw (addw (addw (pSmallOne x2) x7) (pSmallZero x15)) x16 := by
              unfold schedNext; rw [schedN_length, hn, unhide e2, unhide e7, unhide e15, unhide e16]
            refine ⟨k + 1, by omega, by rw [← hn]; go_num, ?_, ?_, ?_, ?_⟩
            · exact (hb.setCell (by simp) _).drew
            · simpa using hz
            · have e : List.replicate (48 - k) (0 : BitVec 32) = 0 :: List.replicate (48 - (k + 1)) 0 := by rw [show 48 - k = (48 - (k + 1)) + 1 by omega]; rfl
              rw [e] at hc
              rw [← hx]
              exact row_set wr _ _ _ _ _ _ _ 0 hc (by rw [schedN_length]; omega)
            · exact row_other wr _ _ 0 _ _ hr (by simp)
          case measure => simp [intOf]; omega
        · obtain rfl : k = 48 := by omega
          have hc' : wr.heap[w.heap.size + 1]? = some (.cells (wc (sched s.data.toList)) 144 (0, 0)) := by simpa [sched] using hc
          have hi : (Tryz.prog.info? 144).map (·.size) = some (wc (sched s.data.toList)).size := by rw [wc_size, sched_length]; kernel_rfl
          clear hc
          have hold : (wc (List.replicate 64 (0 : BitVec 32))).size = (wc (sched s.data.toList)).size := by simp [sched_length]
          go_wp2_with (first
            | (refine wpList_load_row rfl 144 (.tmp 3) rfl (w.heap.size + 1) rfl 144 _ (0, 0) _ hc' Tryz.underlying144 rfl hi ?_)
            | (refine wpList_store_row rfl 144 (.tmp 2) (.tmp 43) rfl w.heap.size _ rfl rfl 144 _ hr hi hold (wc_oneCell _) ?_))
          exact bodyPost_ret (results_cell_row rfl _ _ w.heap.size _ _ _ _ rfl (setRow_heap _ _ _ _ _ _ hr) Tryz.underlying144 rfl hi) rfl ⟨rfl, below_setRow hb (Nat.le_refl _) _⟩
end Go.Proofs.YtocibklkpnblgaaGreatDoor

namespace Go.Proofs.YtocibklkpnblgaaGreatDoor
open Go.RowKit
set_option linter.unusedSimpArgs false

/-- The standard's constants. -/
def kWords : List (BitVec 32) := [1116352408, 1899447441, 3049323471, 3921009573, 961987163, 1508970993, 2453635748, 2870763221, 3624381080, 310598401, 607225278, 1426881987, 1925078388, 2162078206, 2614888103, 3248222580, 3835390401, 4022224774, 264347078, 604807628, 770255983, 1249150122, 1555081692, 1996064986, 2554220882, 2821834349, 2952996808, 3210313671, 3336571891, 3584528711, 113926993, 338241895, 666307205, 773529912, 1294757372, 1396182291, 1695183700, 1986661051, 2177026350, 2456956037, 2730485921, 2820302411, 3259730800, 3345764771, 3516065817, 3600352804, 4094571909, 275423344, 430227734, 506948616, 659060556, 883997877, 958139571, 1322822218, 1537002063, 1747873779, 1955562222, 2024104815, 2227730452, 2361852424, 2428436474, 2756734187, 3204031479, 3329325298]
/-- The first state. -/
def hWords : List (BitVec 32) := [1779033703, 3144134277, 1013904242, 2773480762, 1359893119, 2600822924, 528734635, 1541459225]

/-- Eight words. -/
structure S8 where
  (a b c d e f g h : BitVec 32)
def S8.list (s : S8) : List (BitVec 32) := [s.a, s.b, s.c, s.d, s.e, s.f, s.g, s.h]
def S8.cells (s : S8) : Array Value := wc s.list
def pOne (k w : BitVec 32) (s : S8) : BitVec 32 := addw (addw (addw (addw s.h (pBigOne s.e)) (pChoice s.e s.f s.g)) k) w
def pTwo (s : S8) : BitVec 32 := addw (pBigZero s.a) (pMajority s.a s.b s.c)
def pRound (k w : BitVec 32) (s : S8) : S8 := ⟨addw (pOne k w s) (pTwo s), s.a, s.b, s.c, addw s.d (pOne k w s), s.e, s.f, s.g⟩
def pRounds (ws : List (BitVec 32)) (s : S8) : Nat → S8
  | 0 => s
  | k + 1 => pRound (kWords.getD k 0) (ws.getD k 0) (pRounds ws s k)
def S8.add (s t : S8) : S8 := ⟨addw s.a t.a, addw s.b t.b, addw s.c t.c, addw s.d t.d, addw s.e t.e, addw s.f t.f, addw s.g t.g, addw s.h t.h⟩
/-- The words behind a block of 64 bytes; of another length as they are. -/
def pBlock (s : S8) (l : List UInt8) : S8 := if l.length = 64 then s.add (pRounds (sched l) s 64) else s
theorem S8.list_length (s : S8) : s.list.length = 8 := rfl
theorem S8.ext' {s t : S8} (h : s.list = t.list) : s = t := by
  cases s; cases t; simp_all [S8.list]
theorem S8.add_list (s t : S8) : (s.add t).list = List.zipWith addw s.list t.list := rfl
/-- Words of which the first k have been added to. -/
def addTo (x y : List (BitVec 32)) (k : Nat) : List (BitVec 32) := (List.zipWith addw x y).take k ++ x.drop k
theorem addTo_zero (x y : List (BitVec 32)) : addTo x y 0 = x := by simp [addTo]
theorem addTo_all (x y : List (BitVec 32)) (k : Nat) (h : k = x.length) (h' : y.length = x.length) : addTo x y k = List.zipWith addw x y := by
  subst h; simp [addTo]; exact List.take_of_length_le (by simp [h'])
theorem addTo_length (x y : List (BitVec 32)) (k : Nat) (h : k ≤ x.length) (h' : y.length = x.length) : (addTo x y k).length = x.length := by
  simp [addTo, h']; omega
theorem addTo_get (x y : List (BitVec 32)) (k : Nat) (h : k < x.length) (h' : y.length = x.length) : (addTo x y k).getD k 0 = x.getD k 0 := by
  have hl : ((List.zipWith addw x y).take k).length = k := by simp [h']; omega
  rw [addTo, List.getD_eq_getElem?_getD, List.getElem?_append_right (by omega), hl, List.getElem?_drop, List.getD_eq_getElem?_getD]
  simp
theorem addTo_set (x y : List (BitVec 32)) (k : Nat) (h : k < x.length) (h' : y.length = x.length) :
    (wc (addTo x y k)).setIfInBounds k (.int .u32 ((addw (x.getD k 0) (y.getD k 0)).toNat : Int)) = wc (addTo x y (k + 1)) := by
  have hl : ((List.zipWith addw x y).take k).length = k := by simp [h']; omega
  have hd : x.drop k = x.getD k 0 :: x.drop (k + 1) := by
    rw [List.drop_eq_getElem_cons h, List.getD_eq_getElem?_getD]; simp [h]
  have ht : (List.zipWith addw x y).take (k + 1) = (List.zipWith addw x y).take k ++ [addw (x.getD k 0) (y.getD k 0)] := by
    rw [List.take_succ_eq_append_getElem (by simp [h']; omega)]
    simp [h, show k < y.length by omega]
  unfold addTo
  rw [hd, wc_set _ _ _ _ _ hl.symm, ht]

end Go.Proofs.YtocibklkpnblgaaGreatDoor

namespace Go.Proofs.YtocibklkpnblgaaGreatDoor
open Go.RowKit
set_option linter.unusedSimpArgs false
set_option linter.unusedVariables false

/-- The two tables of package sha lie in memory as its text lays them. -/
structure Tabs (w : World) : Prop where
  size : 0 < w.heap.size ∧ 2 < w.heap.size
  k : ∀ j, j < 64 → w.cell? ⟨2, j, none⟩ = some (.int .u32 ((kWords.getD j 0).toNat : Int))
  h : ∀ j, j < 8 → w.cell? ⟨0, j, none⟩ = some (.int .u32 ((hWords.getD j 0).toNat : Int))
theorem Tabs.below {B : Nat} {w w' : World} (t : Tabs w) (hb : Below B w w') (hB : w.heap.size ≤ B) : Tabs w' := by
  obtain ⟨s, k, h⟩ := t
  refine ⟨⟨Nat.lt_of_lt_of_le s.1 hb.size, Nat.lt_of_lt_of_le s.2 hb.size⟩, fun j hj => ?_, fun j hj => ?_⟩
  · rw [hb.cell (by show 2 < B; omega)]; exact k j hj
  · rw [hb.cell (by show 0 < B; omega)]; exact h j hj

theorem u8w : (Tryz.prog.info? 22).map (·.size) = some 1 := by kernel_rfl
theorem keyw : Tryz.prog.plainKey 22 = true := by kernel_rfl
theorem index64 (ws : List (BitVec 32)) (h : ws.length = 64) (k : Nat) (hk : k < 64) (w : World) : (Instr.index 144 (.agg (wc ws)) (.int .i64 (k : Int))).run Tryz.prog w = .ok (.int .u32 ((ws.getD k 0).toNat : Int)) w :=
  run_index_row 144 22 64 _ k _ Tryz.underlying144 keyw u8w hk (wc_at ws k (by omega)) w
theorem index8 (ws : List (BitVec 32)) (h : ws.length = 8) (k : Nat) (hk : k < 8) (w : World) : (Instr.index 127 (.agg (wc ws)) (.int .i64 (k : Int))).run Tryz.prog w = .ok (.int .u32 ((ws.getD k 0).toNat : Int)) w :=
  run_index_row 127 22 8 _ k _ Tryz.underlying127 keyw u8w hk (wc_at ws k (by omega)) w

set_option maxHeartbeats 400000 in
set_option maxRecDepth 100000 in
theorem block_other (st : S8) (s : ByteArray) (hs : s.size ≠ 64) (hm : s.size ≤ maxLen) (w : World) :
    Calls Tryz.prog 88 #[.agg st.cells, .string s] w fun e w' => e = .returned (.agg st.cells) ∧ Below w.heap.size w w' := by
  have hne : ((s.size : Int) != 64) = true := by simp; omega
  obtain ⟨a, b, c, d, e, f, g, h⟩ := st
  simp only [S8.cells, S8.list, wc, List.map]
  go_enter Tryz.func88, Tryz.ntmps88
  go_wp2
  exact bodyPost_ret (results_cell_row rfl _ _ (w.heap.size + 1) _ _ _ _ rfl (heap_alloc2_new _ _ _) Tryz.underlying127 rfl (by kernel_rfl)) rfl ⟨rfl, ((Below.refl _ _).alloc (Nat.le_refl _) _).alloc (by simp) _⟩

set_option maxHeartbeats 400000 in
set_option maxRecDepth 100000 in
theorem block_calls (st : S8) (s : ByteArray) (hs : s.size = 64) (w : World) (tabs : Tabs w) :
    Calls Tryz.prog 88 #[.agg st.cells, .string s] w fun e w' => e = .returned (.agg (pBlock st s.data.toList).cells) ∧ Below w.heap.size w w' := by
  have hne : ((s.size : Int) != 64) = false := by simp; omega
  obtain ⟨a, b, c, d, e, f, g, h⟩ := st
  simp only [S8.cells, S8.list, wc, List.map]
  go_enter Tryz.func88, Tryz.ntmps88
  go_wp2_with (go_at_call 90; refine (schedule_calls s hs _).mono ?_; rintro e w1 ⟨rfl, hb1⟩)
  have hB : w.heap.size + 1 + 1 + 1 ≤ w1.heap.size := by have := hb1.size; simpa using this
  have q0 : w1.heap[w.heap.size]? = some (.cells (wc [a, b, c, d, e, f, g, h]) 127 (0, 0)) := Below.at hb1 (by simp; omega) (al3 _ _ _ _).1
  have q1 : w1.heap[w.heap.size + 1]? = some (.cells (wc (List.replicate 8 0)) 127 (0, 0)) := Below.at hb1 (by simp) (al3 _ _ _ _).2.1
  have q2 : w1.heap[w.heap.size + 1 + 1]? = some (.cells (pRounds (sched s.data.toList) ⟨a, b, c, d, e, f, g, h⟩ 0).cells 127 (0, 0)) := Below.at hb1 (by simp) (al3 _ _ _ _).2.2
  have hb : Below w.heap.size w w1 := (bel3 _ _ _ _).trans (hb1.mono (by simp; omega))
  clear hb1
  generalize hst : S8.mk a b c d e f g h = st at q2
  have Hst := hide hst
  clear hst
  go_loopw [19] (fun i wr => ∃ k : Nat, k ≤ 64 ∧ i = .int .i64 k ∧ Below w.heap.size w wr ∧ w.heap.size + 1 + 1 + 1 ≤ wr.heap.size ∧ wr.heap[w.heap.size]? = some (.cells (wc [a, b, c, d, e, f, g, h]) 127 (0, 0)) ∧ wr.heap[w.heap.size + 1]? = some (.cells (wc (List.replicate 8 0)) 127 (0, 0)) ∧ wr.heap[w.heap.size + 1 + 1]? = some (.cells (pRounds (sched s.data.toList) st k).cells 127 (0, 0))) (fun i _ => 64 - (intOf i).toNat)
  case atStart => exact ⟨0, by omega, rfl, hb, hB, q0, q1, q2⟩
  case round =>
    clear hb hB q0 q1 q2
    obtain ⟨k, hk, rfl, hb, hB, q0, q1, q2⟩ := hrel
    by_cases hlt : k < 64
    · have tb := tabs.below hb (Nat.le_refl _)
      have hidx := index64 (sched s.data.toList) (sched_length _) k hlt
      generalize hr : pRounds (sched s.data.toList) st k = r at q2
      have Hr := hide hr
      clear hr
      obtain ⟨r0, r1, r2, r3, r4, r5, r6, r7⟩ := r
      have c0 : wr.cell? ⟨w.heap.size + 1 + 1, 0, none⟩ = some (.int .u32 (r0.toNat : Int)) := cell_of_row _ _ _ _ _ _ q2
      have c1 : wr.cell? ⟨w.heap.size + 1 + 1, 1, none⟩ = some (.int .u32 (r1.toNat : Int)) := cell_of_row _ _ _ _ _ _ q2
      have c2 : wr.cell? ⟨w.heap.size + 1 + 1, 2, none⟩ = some (.int .u32 (r2.toNat : Int)) := cell_of_row _ _ _ _ _ _ q2
      have c4 : wr.cell? ⟨w.heap.size + 1 + 1, 4, none⟩ = some (.int .u32 (r4.toNat : Int)) := cell_of_row _ _ _ _ _ _ q2
      have c5 : wr.cell? ⟨w.heap.size + 1 + 1, 5, none⟩ = some (.int .u32 (r5.toNat : Int)) := cell_of_row _ _ _ _ _ _ q2
      have c6 : wr.cell? ⟨w.heap.size + 1 + 1, 6, none⟩ = some (.int .u32 (r6.toNat : Int)) := cell_of_row _ _ _ _ _ _ q2
      have c7 : wr.cell? ⟨w.heap.size + 1 + 1, 7, none⟩ = some (.int .u32 (r7.toNat : Int)) := cell_of_row _ _ _ _ _ _ q2
      obtain ⟨xk, ek, ck⟩ : ∃ x : BitVec 32, Hid (kWords.getD k 0 = x) ∧ wr.cell? ⟨2, k, none⟩ = some (.int .u32 (x.toNat : Int)) := ⟨_, rfl, tb.k k hlt⟩
      obtain ⟨xw, ew, cw⟩ : ∃ x : BitVec 32, Hid ((sched s.data.toList).getD k 0 = x) ∧ ∀ w, (Instr.index 144 (.agg (wc (sched s.data.toList))) (.int .i64 (k : Int))).run Tryz.prog w = .ok (.int .u32 (x.toNat : Int)) w := ⟨_, rfl, hidx⟩
      clear hidx tb
      have bk : (0:Int) ≤ k ∧ (k : Int) < 64 := by omega
      have am := a_mod
      have aw := a_wrap
      go_wp2
      go_quiet ((first | (go_at_call 91; exact Calls.quiet_of_same (bigOne_calls _ _)) | (go_at_call 92; exact Calls.quiet_of_same (choice_calls _ _ _ _))))
      go_wp2
      generalize hw2 : wr.drewN nq = w2
      have hc2 : ∀ p, w2.cell? p = wr.cell? p := fun p => by rw [← hw2]; rfl
      have Hw2 := hide hw2
      clear hw2
      go_quiet ((first | (go_at_call 93; exact Calls.quiet_of_same (bigZero_calls _ _)) | (go_at_call 94; exact Calls.quiet_of_same (majority_calls _ _ _ _))))
      go_wp2
      have q3 : (w2.drewN nq).heap[w.heap.size + 1 + 1]? = some (.cells (wc [r0, r1, r2, r3, r4, r5, r6, r7]) 127 (0, 0)) := by rw [World.heap_drewN, ← unhide Hw2]; exact q2
      have q4 : ∀ k : Nat, (w2.drewN nq).heap[k]? = wr.heap[k]? := by intro k; rw [World.heap_drewN, ← unhide Hw2]; rfl
      have q5 : Below wr.heap.size wr (w2.drewN nq) := by rw [← unhide Hw2]; exact below_drewN (below_drewN (Below.refl _ _) _) _
      generalize w2.drewN nq = w3 at *
      clear hc2 Hw2
      refine wp_region_still_tail 2 mixed (by kernel_rfl) ?_
      simp only [List.take_succ_cons, List.take_zero, List.drop_succ_cons, List.drop_zero]
      iterate 2 still_step
      refine wpStill_nil ?_
      refine wpList_copy_abs (w := w3.drew) rfl (.tmp 54) (.tmp 55) 148 148 rfl 22 Tryz.underlying148 u8w (w.heap.size + 1 + 1) 1 7 7 ⟨w.heap.size + 1 + 1, 0, none⟩ 7 8 rfl rfl _ _ q3 (wc [r0, r1, r2, r3, r4, r5, r6]).toList rfl (src_of_row _ _ _ _ _ q3 _ ⟨(wc [r7]).toList, rfl⟩) (by simp) ?one (wc [r0, r0, r1, r2, r3, r4, r5, r6]) rfl ?_
      case one => intro v hv; exact List.all_eq_true.1 (by simpa using wc_oneCell [r0, r1, r2, r3, r4, r5, r6]) v hv
      intro w4 p4 k4 s4 b4
      have d3 : w4.cell? ⟨w.heap.size + 1 + 1, 4, none⟩ = some (.int .u32 (r3.toNat : Int)) := cell_of_row _ _ _ _ _ _ p4
      have d0 : w4.cell? ⟨w.heap.size + 1 + 1, 0, none⟩ = some (.int .u32 (r0.toNat : Int)) := cell_of_row _ _ _ _ _ _ p4
      have f0 : w4.frozen? ⟨w.heap.size + 1 + 1, 0, none⟩ = false := frozen_of_row _ _ _ _ _ p4
      have f4 : w4.frozen? ⟨w.heap.size + 1 + 1, 4, none⟩ = false := frozen_of_row _ _ _ _ _ p4
      have K4 := hide k4
      have P4 := hide p4
      have Q4 := hide q4
      clear k4 p4 q4 q3 c0 c1 c2 c4 c5 c6 c7 cw ck
      go_wp2
      go_roundw
      case rel =>
        have e4 : (w3.drew).heap.size = w3.heap.size := rfl
        have z5 := q5.size
        refine ⟨k + 1, by omega, by go_num, ?_, ?_, ?_, ?_, ?_⟩
        · exact ((((hb.trans (q5.mono (by omega))).drew).trans (b4.mono (by omega))).setCell (by simp; omega) _).setCell (by simp; omega) _
        · simp only [World.size_setCell]; omega
        · rw [heap_setCell_other _ _ _ _ (by simp; omega), heap_setCell_other _ _ _ _ (by simp; omega), unhide K4 _ (by omega)]; exact (unhide Q4 _).trans q0
        · rw [heap_setCell_other _ _ _ _ (by simp), heap_setCell_other _ _ _ _ (by simp), unhide K4 _ (by omega)]; exact (unhide Q4 _).trans q1
        · rw [heap_setCell_same _ _ _ _ _ _ (heap_setCell_same _ _ _ _ _ _ (unhide P4))]
          have er : pRounds (sched s.data.toList) st (k + 1) = pRound xk xw ⟨r0, r1, r2, r3, r4, r5, r6, r7⟩ := by
            show pRound _ _ (pRounds _ _ k) = _
            rw [unhide Hr, unhide ek, unhide ew]
          rw [er]; rfl
      case measure => simp [intOf]; omega
    · have q2' : wr.heap[w.heap.size + 1 + 1]? = some (.cells (pRounds (sched s.data.toList) st 64).cells 127 (0, 0)) := by rw [q2, show k = 64 by omega]
      clear q2
      generalize hr : pRounds (sched s.data.toList) st 64 = r at q2'
      have Hr := hide hr
      clear hr
      have hir : (Tryz.prog.info? 127).map (·.size) = some r.cells.size := by show _ = some 8; kernel_rfl
      have hd : decide ((k : Int) < 64) = false := by simp; omega
      go_wp2_with (refine wpList_load_row rfl 127 (.tmp 5) rfl (w.heap.size + 1 + 1) rfl 127 _ (0, 0) _ q2' Tryz.underlying127 rfl hir ?_)
      generalize hx : [a, b, c, d, e, f, g, h] = xs at *
      have hxl : xs.length = 8 := by rw [← hx]; rfl
      have Hx := hide hx
      clear hx
      go_loopw [68] (fun i wr => ∃ j : Nat, j ≤ 8 ∧ i = .int .i64 j ∧ Below w.heap.size w wr ∧ wr.heap[w.heap.size]? = some (.cells (wc (addTo xs r.list j)) 127 (0, 0)) ∧ wr.heap[w.heap.size + 1]? = some (.cells (wc (List.replicate 8 0)) 127 (0, 0))) (fun i _ => 8 - (intOf i).toNat)
      case atStart => exact ⟨0, by omega, rfl, hb, by rw [addTo_zero]; exact q0, q1⟩
      case round =>
        clear hb hB q0 q1 q2' hir
        obtain ⟨j, hj, rfl, hb, q0, q1⟩ := hrel
        by_cases hlt : j < 8
        · have c0 : wr.cell? ⟨w.heap.size, j, none⟩ = some (.int .u32 ((xs.getD j 0).toNat : Int)) := by
            rw [cell_of_row _ _ _ _ _ _ q0, wc_at _ _ (by rw [addTo_length _ _ _ (by omega) (by rw [hxl]; rfl)]; omega), addTo_get _ _ _ (by omega) (by rw [hxl]; rfl)]
          have f0 : wr.frozen? ⟨w.heap.size, j, none⟩ = false := frozen_of_row _ _ _ _ _ q0
          have hidx : ∀ w, (Instr.index 127 (.agg r.cells) (.int .i64 (j : Int))).run Tryz.prog w = .ok (.int .u32 ((r.list.getD j 0).toNat : Int)) w := index8 r.list rfl j hlt
          generalize hy : r.list.getD j 0 = y at hidx
          generalize hx : xs.getD j 0 = x at c0
          have Hy := hide hy
          have Hxx := hide hx
          clear hx hy
          have bj : (0:Int) ≤ j ∧ (j : Int) < 8 := by omega
          have am := a_mod
          have aw := a_wrap
          go_wp2
          go_roundw
          case rel =>
            refine ⟨j + 1, by omega, by go_num, ?_, ?_, ?_⟩
            · exact hb.setCell (by simp) _
            · rw [heap_setCell_same _ _ _ _ _ _ q0, ← addTo_set _ _ _ (by omega) (by rw [hxl]; rfl), unhide Hy, unhide Hxx]
            · rw [heap_setCell_other _ _ _ _ (by simp)]; exact q1
          case measure => simp [intOf]; omega
        · have q0' : wr.heap[w.heap.size]? = some (.cells (pBlock st s.data.toList).cells 127 (0, 0)) := by
            have e1 : (pBlock st s.data.toList).list = addTo xs r.list 8 := by
              have hl : s.data.toList.length = 64 := by simpa using hs
              rw [pBlock, if_pos hl, S8.add_list, unhide Hr, addTo_all _ _ _ hxl.symm (by rw [hxl]; rfl), ← unhide Hx, ← unhide Hst]; rfl
            rw [q0, show j = 8 by omega, ← e1]; rfl
          have hib : (Tryz.prog.info? 127).map (·.size) = some (pBlock st s.data.toList).cells.size := by show _ = some 8; kernel_rfl
          have ho1 : (pBlock st s.data.toList).cells.all (·.oneCell') = true := wc_oneCell _
          generalize hpb : pBlock st s.data.toList = pb at q0' hib ho1
          have Hpb := hide hpb
          clear hpb q0
          have hd : decide ((j : Int) < 8) = false := by simp; omega
          go_wp2_with (first
            | (refine wpList_load_row rfl 127 (.tmp 2) rfl w.heap.size rfl 127 _ (0, 0) _ q0' Tryz.underlying127 rfl hib ?_)
            | (refine wpList_store_row rfl 127 (.tmp 4) (.tmp 79) rfl (w.heap.size + 1) _ rfl rfl 127 _ q1 hib rfl ho1 ?_))
          exact bodyPost_ret (results_cell_row rfl _ _ (w.heap.size + 1) _ _ _ _ rfl (setRow_heap _ _ _ _ _ _ q1) Tryz.underlying127 rfl hib) rfl ⟨by rw [← unhide Hpb, ← unhide Hst]; rfl, below_setRow hb (by simp) _⟩
end Go.Proofs.YtocibklkpnblgaaGreatDoor

namespace Go.Proofs.YtocibklkpnblgaaGreatDoor
open Go.RowKit
set_option linter.unusedSimpArgs false

/-- The words behind n whole blocks at most, and what is left. -/
def pThroughN : Nat → S8 → List UInt8 → S8 × List UInt8
  | 0, s, l => (s, l)
  | n + 1, s, l => if 64 ≤ l.length then pThroughN n (pBlock s (l.take 64)) (l.drop 64) else (s, l)
def pThrough (s : S8) (l : List UInt8) : S8 × List UInt8 := pThroughN (l.length / 64) s l
theorem pThrough_step (s : S8) (l : List UInt8) (h : 64 ≤ l.length) : pThrough s l = pThrough (pBlock s (l.take 64)) (l.drop 64) := by
  unfold pThrough
  rw [show l.length / 64 = (l.drop 64).length / 64 + 1 by simp; omega]
  simp [pThroughN, h]
theorem pThrough_end (s : S8) (l : List UInt8) (h : l.length < 64) : pThrough s l = (s, l) := by
  unfold pThrough
  rw [Nat.div_eq_of_lt h]; rfl

/-- A sum of two words of 64 bits, under a name of its own. -/
def add64 (x y : BitVec 64) : BitVec 64 := x + y
theorem a64_wrap (x y : BitVec 64) : IntKind.u64.wrap ((x.toNat : Int) + (y.toNat : Int)) = ((add64 x y).toNat : Int) := by
  rw [IntKind.wrap_u64, add64, BitVec.toNat_add]; omega
/-- A state: words, rest, count. -/
structure St where
  (s : S8) (rest : List UInt8) (count : BitVec 64)
def St.cells (t : St) : Array Value := #[.int .u32 (t.s.a.toNat : Int), .int .u32 (t.s.b.toNat : Int), .int .u32 (t.s.c.toNat : Int), .int .u32 (t.s.d.toNat : Int), .int .u32 (t.s.e.toNat : Int), .int .u32 (t.s.f.toNat : Int), .int .u32 (t.s.g.toNat : Int), .int .u32 (t.s.h.toNat : Int), .string (str t.rest), .int .u64 (t.count.toNat : Int)]
theorem St.oneCell (t : St) : t.cells.all (·.oneCell') = true := by simp [St.cells, Value.oneCell']
def pBegin : St := ⟨⟨1779033703, 3144134277, 1013904242, 2773480762, 1359893119, 2600822924, 528734635, 1541459225⟩, [], 0⟩
/-- The state behind a text. -/
def pAdd (t : St) (l : List UInt8) : St := ⟨(pThrough t.s (t.rest ++ l)).1, (pThrough t.s (t.rest ++ l)).2, add64 t.count (BitVec.ofNat 64 l.length)⟩

end Go.Proofs.YtocibklkpnblgaaGreatDoor

namespace Go.Proofs.YtocibklkpnblgaaGreatDoor
open Go.RowKit
set_option linter.unusedSimpArgs false
set_option linter.unusedVariables false

set_option maxHeartbeats 400000 in
set_option maxRecDepth 100000 in
theorem through_calls (st : S8) (l : List UInt8) (hl : l.length ≤ maxLen) (w : World) (tabs : Tabs w) :
    Calls Tryz.prog 85 #[.agg st.cells, .string (str l)] w fun e w' => e = .returned (.tuple #[.agg (pThrough st l).1.cells, .string (str (pThrough st l).2)]) ∧ Below w.heap.size w w' := by
  obtain ⟨a, b, c, d, e, f, g, h⟩ := st
  unfold maxLen at hl
  generalize hT : pThrough ⟨a, b, c, d, e, f, g, h⟩ l = T
  simp only [S8.cells, S8.list, wc, List.map]
  have HT := hide hT
  clear hT
  go_enter Tryz.func85, Tryz.ntmps85
  go_wp2
  go_loopw [1] (fun t wr => ∃ (m : List UInt8) (s : S8), t = .string (str m) ∧ m.length ≤ l.length ∧ Hid (pThrough s m = T) ∧ Below w.heap.size w wr ∧ w.heap.size + 1 + 1 ≤ wr.heap.size ∧ wr.heap[w.heap.size]? = some (.cells s.cells 127 (0, 0)) ∧ wr.heap[w.heap.size + 1]? = some (.cells (wc (List.replicate 8 0)) 127 (0, 0))) (fun t _ => match t with | .string s => s.size | _ => 0)
  case atStart => exact ⟨l, ⟨a, b, c, d, e, f, g, h⟩, rfl, Nat.le_refl _, HT, bel2 _ _ _, by simp, (al2 _ _ _).1, (al2 _ _ _).2⟩
  case round =>
    obtain ⟨m, s, rfl, hm, hS, hb, hB, q0, q1⟩ := hrel
    by_cases hlt : 64 ≤ m.length
    · have hge : decide ((64 : Int) ≤ ((m.length : Nat) : Int)) = true := by simp; omega
      obtain ⟨s0, s1, s2, s3, s4, s5, s6, s7⟩ := s
      have c0 : wr.cell? ⟨w.heap.size, 0, none⟩ = some (.int .u32 (s0.toNat : Int)) := cell_of_row _ _ _ _ _ _ q0
      have c1 : wr.cell? ⟨w.heap.size, 1, none⟩ = some (.int .u32 (s1.toNat : Int)) := cell_of_row _ _ _ _ _ _ q0
      have c2 : wr.cell? ⟨w.heap.size, 2, none⟩ = some (.int .u32 (s2.toNat : Int)) := cell_of_row _ _ _ _ _ _ q0
      have c3 : wr.cell? ⟨w.heap.size, 3, none⟩ = some (.int .u32 (s3.toNat : Int)) := cell_of_row _ _ _ _ _ _ q0
      have c4 : wr.cell? ⟨w.heap.size, 4, none⟩ = some (.int .u32 (s4.toNat : Int)) := cell_of_row _ _ _ _ _ _ q0
      have c5 : wr.cell? ⟨w.heap.size, 5, none⟩ = some (.int .u32 (s5.toNat : Int)) := cell_of_row _ _ _ _ _ _ q0
      have c6 : wr.cell? ⟨w.heap.size, 6, none⟩ = some (.int .u32 (s6.toNat : Int)) := cell_of_row _ _ _ _ _ _ q0
      have c7 : wr.cell? ⟨w.heap.size, 7, none⟩ = some (.int .u32 (s7.toNat : Int)) := cell_of_row _ _ _ _ _ _ q0
      have b64 : (64 : Int) ≤ (m.length : Int) := by omega
      have es := take_str m 64
      have ed := drop_str m 64 _ rfl
      go_wp2
      refine wp_region_still_tail 3 mixed (by kernel_rfl) ?_
      simp only [List.take_succ_cons, List.take_zero, List.drop_succ_cons, List.drop_zero]
      iterate 3 still_step
      refine wpStill_nil ?_
      have hsz : (str (m.take 64)).size = 64 := by simp; omega
      have tb : Tabs wr.drew := tabs.below hb.drew (Nat.le_refl _)
      have q0d : wr.drew.heap[w.heap.size]? = some (.cells (S8.mk s0 s1 s2 s3 s4 s5 s6 s7).cells 127 (0, 0)) := q0
      show wpList _ _ _ _ _ wr.drew
      go_wp2_with fail
      refine (block_calls ⟨s0, s1, s2, s3, s4, s5, s6, s7⟩ _ hsz _ tb).mono ?_
      rintro e w1 ⟨rfl, hb1⟩
      have q0' : w1.heap[w.heap.size]? = some (.cells (S8.mk s0 s1 s2 s3 s4 s5 s6 s7).cells 127 (0, 0)) := Below.at hb1 (by show w.heap.size < wr.heap.size; omega) q0
      have q1' : w1.heap[w.heap.size + 1]? = some (.cells (wc (List.replicate 8 0)) 127 (0, 0)) := Below.at hb1 (by show w.heap.size + 1 < wr.heap.size; omega) q1
      generalize hpb : pBlock ⟨s0, s1, s2, s3, s4, s5, s6, s7⟩ (str (m.take 64)).data.toList = pb
      have hib : (Tryz.prog.info? 127).map (·.size) = some pb.cells.size := by show _ = some 8; kernel_rfl
      have ho1 : pb.cells.all (·.oneCell') = true := wc_oneCell _
      have Hpb := hide hpb
      clear hpb
      have z1 := hb1.size
      go_wp2_with (refine wpList_store_row rfl 127 (.tmp 2) (.tmp 12) rfl w.heap.size _ rfl rfl 127 _ q0' hib rfl ho1 ?_)
      go_roundw
      case rel =>
        refine ⟨m.drop 64, pb, rfl, by simp; omega, ?_, below_setRow ((hb.drew).trans (hb1.mono (by show w.heap.size ≤ wr.heap.size; omega))) (Nat.le_refl _) _, ?_, setRow_heap _ _ _ _ _ _ q0', ?_⟩
        · have h1 := unhide hS
          rw [pThrough_step _ _ hlt] at h1
          have h2 := unhide Hpb
          rw [str_toList] at h2
          rw [h2] at h1
          exact hide h1
        · rw [setRow_size]; have : wr.drew.heap.size = wr.heap.size := rfl; omega
        · rw [setRow_other _ _ _ _ (by omega)]; exact q1'
      case measure => simp; omega
    · have hge : decide ((64 : Int) ≤ ((m.length : Nat) : Int)) = false := by simp; omega
      have hi : (Tryz.prog.info? 127).map (·.size) = some s.cells.size := by show _ = some 8; kernel_rfl
      have ho1 : s.cells.all (·.oneCell') = true := wc_oneCell _
      rw [pThrough_end _ _ (by omega)] at hS
      go_wp2_with (first
        | (refine wpList_load_row rfl 127 (.tmp 2) rfl w.heap.size rfl 127 _ (0, 0) _ q0 Tryz.underlying127 rfl hi ?_)
        | (refine wpList_store_row rfl 127 (.tmp 4) (.tmp 15) rfl (w.heap.size + 1) _ rfl rfl 127 _ q1 hi rfl ho1 ?_))
      exact bodyPost_ret (results_row_tmp rfl _ _ (w.heap.size + 1) _ _ _ _ rfl (setRow_heap _ _ _ _ _ _ q1) Tryz.underlying127 rfl hi) rfl ⟨by rw [← unhide hS]; rfl, below_setRow hb (by simp) _⟩

/-- The same, the words written out. -/
theorem through_lit (a b c d e f g h : BitVec 32) (l : List UInt8) (hl : l.length ≤ maxLen) (w : World) (tabs : Tabs w) :
    Calls Tryz.prog 85 #[.agg #[.int .u32 (a.toNat : Int), .int .u32 (b.toNat : Int), .int .u32 (c.toNat : Int), .int .u32 (d.toNat : Int), .int .u32 (e.toNat : Int), .int .u32 (f.toNat : Int), .int .u32 (g.toNat : Int), .int .u32 (h.toNat : Int)], .string (str l)] w fun en w' =>
      ∃ (r0 r1 r2 r3 r4 r5 r6 r7 : BitVec 32) (m : List UInt8), en = .returned (.tuple #[.agg #[.int .u32 (r0.toNat : Int), .int .u32 (r1.toNat : Int), .int .u32 (r2.toNat : Int), .int .u32 (r3.toNat : Int), .int .u32 (r4.toNat : Int), .int .u32 (r5.toNat : Int), .int .u32 (r6.toNat : Int), .int .u32 (r7.toNat : Int)], .string (str m)]) ∧ Hid (pThrough ⟨a, b, c, d, e, f, g, h⟩ l = (⟨r0, r1, r2, r3, r4, r5, r6, r7⟩, m)) ∧ Below w.heap.size w w' := by
  refine (through_calls ⟨a, b, c, d, e, f, g, h⟩ l hl w tabs).mono ?_
  rintro en w' ⟨rfl, hb⟩
  generalize hT : pThrough ⟨a, b, c, d, e, f, g, h⟩ l = T
  obtain ⟨⟨r0, r1, r2, r3, r4, r5, r6, r7⟩, m⟩ := T
  exact ⟨r0, r1, r2, r3, r4, r5, r6, r7, m, rfl, rfl, hb⟩
theorem pThrough_rest_le (s : S8) (l : List UInt8) : (pThrough s l).2.length < 64 ∧ (pThrough s l).2.length ≤ l.length := by
  generalize hn : l.length = n
  induction n using Nat.strongRecOn generalizing s l with
  | _ n ih =>
    by_cases h : 64 ≤ l.length
    · rw [pThrough_step s l h]
      have := ih (l.drop 64).length (by simp; omega) (pBlock s (l.take 64)) (l.drop 64) rfl
      simp at this; omega
    · rw [pThrough_end s l (by omega)]; simp; omega
end Go.Proofs.YtocibklkpnblgaaGreatDoor

namespace Go.Proofs.YtocibklkpnblgaaGreatDoor
open Go.RowKit
set_option linter.unusedSimpArgs false
set_option linter.unusedVariables false

theorem Tabs.below' {w w' : World} (t : Tabs w) (hb : Below w.heap.size w w') : Tabs w' := t.below hb (Nat.le_refl _)

set_option maxHeartbeats 400000 in
set_option maxRecDepth 100000 in
theorem begin_calls (w : World) (tabs : Tabs w) :
    Calls Tryz.prog 80 #[] w fun e w' => e = .returned (.agg pBegin.cells) ∧ Below w.heap.size w w' := by
  have k0 : w.cell? ⟨0, 0, none⟩ = some (.int .u32 1779033703) := tabs.h 0 (by decide)
  have k1 : w.cell? ⟨0, 1, none⟩ = some (.int .u32 3144134277) := tabs.h 1 (by decide)
  have k2 : w.cell? ⟨0, 2, none⟩ = some (.int .u32 1013904242) := tabs.h 2 (by decide)
  have k3 : w.cell? ⟨0, 3, none⟩ = some (.int .u32 2773480762) := tabs.h 3 (by decide)
  have k4 : w.cell? ⟨0, 4, none⟩ = some (.int .u32 1359893119) := tabs.h 4 (by decide)
  have k5 : w.cell? ⟨0, 5, none⟩ = some (.int .u32 2600822924) := tabs.h 5 (by decide)
  have k6 : w.cell? ⟨0, 6, none⟩ = some (.int .u32 528734635) := tabs.h 6 (by decide)
  have k7 : w.cell? ⟨0, 7, none⟩ = some (.int .u32 1541459225) := tabs.h 7 (by decide)
  have hz := tabs.size
  go_enter Tryz.func80, Tryz.ntmps80
  go_wp2
  exact bodyPost_ret (results_cell_row rfl _ _ w.heap.size _ _ _ _ rfl (al1 _ _) Tryz.underlying129 rfl (by kernel_rfl)) rfl ⟨rfl, (Below.refl _ _).alloc (Nat.le_refl _) _⟩

set_option maxHeartbeats 400000 in
set_option maxRecDepth 100000 in
theorem add_calls (st : St) (l : List UInt8) (hl : st.rest.length + l.length ≤ 140737488355328) (w : World) (tabs : Tabs w) :
    Calls Tryz.prog 81 #[.agg st.cells, .string (str l)] w fun e w' => e = .returned (.agg (pAdd st l).cells) ∧ Below w.heap.size w w' := by
  obtain ⟨⟨a, b, c, d, e, f, g, h⟩, rest, count⟩ := st
  simp only [St.cells]
  have hl : rest.length + l.length ≤ 140737488355328 := hl
  have ea := append_str rest l
  have n1 : ¬ 9223372036854775807 < rest.length + l.length := by omega
  go_enter Tryz.func81, Tryz.ntmps81
  go_wp2_with fail
  refine (through_lit a b c d e f g h (rest ++ l) (by simp [maxLen]; omega) _ (tabs.below' (bel2 _ _ _))).mono ?_
  rintro en w1 ⟨r0, r1, r2, r3, r4, r5, r6, r7, m, rfl, HT, hb1⟩
  have z1 : w.heap.size + 1 + 1 ≤ w1.heap.size := by have := hb1.size; simpa using this
  have q0 := Below.at hb1 (by simp; omega) (al2 _ _ _).1
  have q1 := Below.at hb1 (by simp) (al2 _ _ _).2
  have hb : Below w.heap.size w w1 := (bel2 _ _ _).trans (hb1.mono (by simp; omega))
  clear hb1
  have Q0 := hide q0
  have Q1 := hide q1
  clear q0 q1
  go_wp2_with fail
  have q2 := al1 w1 (.cells #[.int .u32 (r0.toNat : Int), .int .u32 (r1.toNat : Int), .int .u32 (r2.toNat : Int), .int .u32 (r3.toNat : Int), .int .u32 (r4.toNat : Int), .int .u32 (r5.toNat : Int), .int .u32 (r6.toNat : Int), .int .u32 (r7.toNat : Int)] 127)
  have q0 := Below.at ((Below.refl w1.heap.size w1).alloc (Nat.le_refl _) (.cells #[.int .u32 (r0.toNat : Int), .int .u32 (r1.toNat : Int), .int .u32 (r2.toNat : Int), .int .u32 (r3.toNat : Int), .int .u32 (r4.toNat : Int), .int .u32 (r5.toNat : Int), .int .u32 (r6.toNat : Int), .int .u32 (r7.toNat : Int)] 127)) (by omega) (unhide Q0)
  have q1 := Below.at ((Below.refl w1.heap.size w1).alloc (Nat.le_refl _) (.cells #[.int .u32 (r0.toNat : Int), .int .u32 (r1.toNat : Int), .int .u32 (r2.toNat : Int), .int .u32 (r3.toNat : Int), .int .u32 (r4.toNat : Int), .int .u32 (r5.toNat : Int), .int .u32 (r6.toNat : Int), .int .u32 (r7.toNat : Int)] 127)) (by omega) (unhide Q1)
  have hb2 := hb.alloc (by omega) (.cells #[.int .u32 (r0.toNat : Int), .int .u32 (r1.toNat : Int), .int .u32 (r2.toNat : Int), .int .u32 (r3.toNat : Int), .int .u32 (r4.toNat : Int), .int .u32 (r5.toNat : Int), .int .u32 (r6.toNat : Int), .int .u32 (r7.toNat : Int)] 127)
  generalize hw2 : w1.alloc (.cells #[.int .u32 (r0.toNat : Int), .int .u32 (r1.toNat : Int), .int .u32 (r2.toNat : Int), .int .u32 (r3.toNat : Int), .int .u32 (r4.toNat : Int), .int .u32 (r5.toNat : Int), .int .u32 (r6.toNat : Int), .int .u32 (r7.toNat : Int)] 127) = w2 at *
  have z2 : w2.heap.size = w1.heap.size + 1 := by rw [← hw2]; simp
  have c0 : ∀ d os, (Sort.grow (redrawn w2 d) os).cell? ⟨w1.heap.size, 0, none⟩ = some (.int .u32 (r0.toNat : Int)) := cell_regrown (cell_of_row _ _ _ _ _ _ q2)
  have c1 : ∀ d os, (Sort.grow (redrawn w2 d) os).cell? ⟨w1.heap.size, 1, none⟩ = some (.int .u32 (r1.toNat : Int)) := cell_regrown (cell_of_row _ _ _ _ _ _ q2)
  have c2 : ∀ d os, (Sort.grow (redrawn w2 d) os).cell? ⟨w1.heap.size, 2, none⟩ = some (.int .u32 (r2.toNat : Int)) := cell_regrown (cell_of_row _ _ _ _ _ _ q2)
  have c3 : ∀ d os, (Sort.grow (redrawn w2 d) os).cell? ⟨w1.heap.size, 3, none⟩ = some (.int .u32 (r3.toNat : Int)) := cell_regrown (cell_of_row _ _ _ _ _ _ q2)
  have c4 : ∀ d os, (Sort.grow (redrawn w2 d) os).cell? ⟨w1.heap.size, 4, none⟩ = some (.int .u32 (r4.toNat : Int)) := cell_regrown (cell_of_row _ _ _ _ _ _ q2)
  have c5 : ∀ d os, (Sort.grow (redrawn w2 d) os).cell? ⟨w1.heap.size, 5, none⟩ = some (.int .u32 (r5.toNat : Int)) := cell_regrown (cell_of_row _ _ _ _ _ _ q2)
  have c6 : ∀ d os, (Sort.grow (redrawn w2 d) os).cell? ⟨w1.heap.size, 6, none⟩ = some (.int .u32 (r6.toNat : Int)) := cell_regrown (cell_of_row _ _ _ _ _ _ q2)
  have c7 : ∀ d os, (Sort.grow (redrawn w2 d) os).cell? ⟨w1.heap.size, 7, none⟩ = some (.int .u32 (r7.toNat : Int)) := cell_regrown (cell_of_row _ _ _ _ _ _ q2)
  have c9 : ∀ d os, (Sort.grow (redrawn w2 d) os).cell? ⟨w.heap.size, 9, none⟩ = some (.int .u64 (count.toNat : Int)) := cell_regrown (cell_of_row _ _ _ _ _ _ q0)
  obtain ⟨x, hx, ex⟩ : ∃ x : BitVec 64, Hid (BitVec.ofNat 64 l.length = x) ∧ IntKind.u64.wrap (l.length : Int) = (x.toNat : Int) := ⟨_, rfl, by rw [IntKind.wrap_u64]; simp⟩
  have hm := pThrough_rest_le ⟨a, b, c, d, e, f, g, h⟩ (rest ++ l)
  rw [unhide HT] at hm
  have hcl : ∀ d os, _ := fun d os => Calls.regrown_of (w := w2) (d := d) (os := os) (clone_calls (str m) _ (by simp; simp at hm; omega))
  have aw := a64_wrap
  clear hw2 hb Q0 Q1 hm
  have Q1 := hide q1
  clear q0 q1 q2
  refine wp_region_below_tail 10 mixed (by kernel_rfl) ?_
  simp only [List.take_succ_cons, List.take_zero, List.drop_succ_cons, List.drop_zero]
  repeat (quiet_step (exact hcl _ _))
  refine wpQuiet_nil ?_
  intro w3 hb3
  have q1' := Below.at hb3 (by omega) (unhide Q1)
  have hst : pAdd ⟨⟨a, b, c, d, e, f, g, h⟩, rest, count⟩ l = ⟨⟨r0, r1, r2, r3, r4, r5, r6, r7⟩, m, add64 count x⟩ := by
    simp only [pAdd]; rw [unhide HT, unhide hx]
  have Hst := hide hst
  clear hst Q1
  have hi : (Tryz.prog.info? 129).map (·.size) = some (St.mk ⟨r0, r1, r2, r3, r4, r5, r6, r7⟩ m (add64 count x)).cells.size := by show _ = some 10; kernel_rfl
  have ho := St.oneCell ⟨⟨r0, r1, r2, r3, r4, r5, r6, r7⟩, m, add64 count x⟩
  go_wp2_with (refine wpList_store_row rfl 129 (.tmp 4) (.tmp 26) rfl (w.heap.size + 1) _ rfl rfl 129 _ q1' hi rfl ho ?_)
  exact bodyPost_ret (results_cell_row rfl _ _ (w.heap.size + 1) _ _ _ _ rfl (setRow_heap _ _ _ _ _ _ q1') Tryz.underlying129 rfl hi) rfl ⟨by rw [unhide Hst], below_setRow (hb2.trans (hb3.mono (by omega))) (by simp) _⟩
end Go.Proofs.YtocibklkpnblgaaGreatDoor

namespace Go.Proofs.YtocibklkpnblgaaGreatDoor
open Go.RowKit
set_option linter.unusedSimpArgs false

/-- A number's eight bytes, the highest first. -/
def be64 (x : BitVec 64) : List UInt8 := (List.range 8).map fun i => UInt8.ofNat (x.toNat / 2 ^ (56 - 8 * i))
theorem be64_length (x : BitVec 64) : (be64 x).length = 8 := by simp [be64]
theorem be64_at (x : BitVec 64) (i : Nat) (h : i < 8) : (be64 x).getD i 0 = UInt8.ofNat (x.toNat / 2 ^ (56 - 8 * i)) := by
  simp [be64, h]
/-- How many noughts stand behind the byte 80. -/
def noughts (rest : Nat) : Nat := (119 - rest % 64) % 64
def mul8 (x : BitVec 64) : BitVec 64 := 8 * x
theorem m8_wrap (x : BitVec 64) : IntKind.u64.wrap (8 * (x.toNat : Int)) = ((mul8 x).toNat : Int) := by
  rw [IntKind.wrap_u64, mul8, BitVec.toNat_mul]
  show _ = ((8 * x.toNat % 18446744073709551616 : Nat) : Int)
  omega
/-- What makes a rest whole blocks, and tells the count. -/
def padBytes (rest : Nat) (count : BitVec 64) : List UInt8 := 128 :: (List.replicate (noughts rest) 0 ++ be64 (mul8 count))
theorem padBytes_length (rest : Nat) (count : BitVec 64) : (padBytes rest count).length = 9 + noughts rest := by simp [padBytes, be64_length]; omega

end Go.Proofs.YtocibklkpnblgaaGreatDoor

namespace Go.Proofs.YtocibklkpnblgaaGreatDoor
open Go.RowKit
set_option linter.unusedSimpArgs false
set_option linter.unusedVariables false

set_option maxHeartbeats 400000 in
set_option maxRecDepth 100000 in
theorem padding_calls (rest : Nat) (hr : rest ≤ 140737488355328) (count : BitVec 64) (w : World) :
    Calls Tryz.prog 87 #[.int .i64 (rest : Int), .int .u64 (count.toNat : Int)] w fun e w' => e = .returned (.string (str (padBytes rest count))) ∧ Below w.heap.size w w' := by
  generalize hn : noughts rest = n
  have hn64 : n < 64 := by rw [← hn]; exact Nat.mod_lt _ (by decide)
  have e1 : ((119 : Int) - (rest : Int) % 64) % 64 = (n : Int) := by rw [← hn, noughts]; omega
  have mk := make_bytes (1 + n + 8) (by omega)
  rw [show ((1 + n + 8 : Nat) : Int) = 1 + (n : Int) + 8 by omega] at mk
  have m8 := m8_wrap
  have Hn := hide hn
  clear hn
  go_enter Tryz.func87, Tryz.ntmps87
  go_wp2
  generalize hx : mul8 count = x
  have Hx := hide hx
  clear hx
  go_loopw [21] (fun i wr => ∃ k : Nat, k ≤ 8 ∧ i = .int .i64 k ∧ Below w.heap.size w wr ∧ wr.heap[w.heap.size]? = some (.cells (bc (128 :: (List.replicate n 0 ++ (be64 x).take k) ++ List.replicate (8 - k) 0)) 5 (0, 0))) (fun i _ => 8 - (intOf i).toNat)
  case atStart =>
    refine ⟨0, by omega, rfl, (Below.refl _ _).alloc (Nat.le_refl _) _, ?_⟩
    rw [al1, show 1 + n + 8 = (n + 8) + 1 by omega, List.replicate_succ]
    have := bc_set [] (List.replicate (n + 8) 0) 0 128 0 rfl
    simp only [List.nil_append] at this
    simp only [List.take_zero, List.append_nil, Nat.sub_zero, List.cons_append, List.replicate_append_replicate]
    exact congrArg (fun c => some (Obj.cells c 5 (0, 0))) this
  case round =>
    obtain ⟨k, hk, rfl, hb, q⟩ := hrel
    by_cases hlt : k < 8
    · have hl : (128 :: (List.replicate n 0 ++ (be64 x).take k) : List UInt8).length = 1 + n + k := by simp [be64_length]; omega
      have hlen : (128 :: (List.replicate n 0 ++ (be64 x).take k) ++ List.replicate (8 - k) 0 : List UInt8).length = 1 + n + 8 := by rw [List.length_append, hl, List.length_replicate]; omega
      have c : wr.cell? ⟨w.heap.size, 1 + n + k, none⟩ = some (.int .u8 (((128 :: (List.replicate n 0 ++ (be64 x).take k) ++ List.replicate (8 - k) 0 : List UInt8).getD (1 + n + k) 0).toNat : Int)) := by
        rw [cell_of_row _ _ _ _ _ _ q]; exact bc_at _ _ (by omega)
      have f : wr.frozen? ⟨w.heap.size, 1 + n + k, none⟩ = false := frozen_of_row _ _ _ _ _ q
      have b1 : (0 : Int) ≤ 1 + n + k ∧ (1 : Int) + n + k < 1 + n + 8 := by omega
      have Hl := hide hl
      obtain ⟨s, hs, es⟩ : ∃ s : Nat, Hid (56 - 8 * k = s) ∧ (56 : Int) - 8 * (k : Int) = (s : Int) := ⟨_, rfl, by omega⟩
      have hs64 : s ≤ 56 := by have := unhide hs; omega
      generalize hv : (128 :: (List.replicate n 0 ++ (be64 x).take k) ++ List.replicate (8 - k) 0 : List UInt8).getD (1 + n + k) 0 = v at c
      clear hlen hl hv mk m8
      go_wp2
      go_roundw
      case rel =>
        refine ⟨k + 1, by omega, by go_num, hb.setCell (by simp) _, ?_⟩
        rw [byte_mod, ← unhide hs, ← be64_at x k hlt]
        have hz : List.replicate (8 - k) (0 : UInt8) = 0 :: List.replicate (8 - (k + 1)) 0 := by rw [show 8 - k = (8 - (k + 1)) + 1 by omega]; rfl
        rw [hz] at q
        rw [heap_setCell_same _ _ _ _ _ _ q, bc_set _ _ _ _ _ (unhide Hl).symm]
        have ht : (be64 x).take (k + 1) = (be64 x).take k ++ [(be64 x).getD k 0] := by
          rw [List.take_succ_eq_append_getElem (by rw [be64_length]; omega)]
          simp [be64_length, hlt]
        rw [ht]; simp
      case measure => simp [intOf]; omega
    · have q' : wr.heap[w.heap.size]? = some (.cells (bc (padBytes rest count)) 5 (0, 0)) := by
        rw [q, show k = 8 by omega, padBytes, unhide Hn, unhide Hx, List.take_of_length_le (by rw [be64_length]; omega)]; simp
      have hl : (padBytes rest count).length = 1 + n + 8 := by rw [padBytes_length, unhide Hn]; omega
      have hcv := run_convert_bytes_back (P := Tryz.prog) wr 82 9 5 ⟨w.heap.size, 0, none⟩ (1 + n + 8) (padBytes rest count) Tryz.underlying82 Tryz.underlying5 Tryz.underlying9 (fun j hj => by
        have hadd : (⟨w.heap.size, 0, none⟩ : Addr).add j = ⟨w.heap.size, j, none⟩ := by unfold Addr.add; split <;> simp_all
        rw [hadd, cell_of_row _ _ _ _ _ _ q', bc_at _ _ hj]; simp [hj])
      rw [hl] at hcv
      generalize hp : padBytes rest count = pb at *
      have Hp := hide hp
      have hd : decide ((k : Int) < 8) = false := by simp; omega
      clear q q' hl mk m8 hp
      go_wp2
      go_ret
      exact ⟨by rw [unhide Hp]; rfl, hb⟩
end Go.Proofs.YtocibklkpnblgaaGreatDoor

namespace Go.Proofs.YtocibklkpnblgaaGreatDoor
open Go.RowKit
set_option linter.unusedSimpArgs false
set_option linter.unusedVariables false

/-- Words as bytes, the highest byte of each first. -/
def wordBytes (x : BitVec 32) : List UInt8 := [UInt8.ofNat (x.toNat / 2 ^ 24), UInt8.ofNat (x.toNat / 2 ^ 16), UInt8.ofNat (x.toNat / 2 ^ 8), UInt8.ofNat (x.toNat / 2 ^ 0)]
def S8.bytes (s : S8) : List UInt8 := s.list.flatMap wordBytes
/-- The digest that a state ends in. -/
def pEnd (t : St) : List UInt8 := (pThrough t.s (t.rest ++ padBytes t.rest.length t.count)).1.bytes
theorem S8.bytes_length (s : S8) : s.bytes.length = 32 := rfl
theorem wordBytes_length (x : BitVec 32) : (wordBytes x).length = 4 := rfl
theorem wordBytes_at (x : BitVec 32) (j : Nat) (h : j < 4) : (wordBytes x).getD j 0 = UInt8.ofNat (x.toNat / 2 ^ (24 - 8 * j)) := by
  match j, h with
  | 0, _ => rfl
  | 1, _ => rfl
  | 2, _ => rfl
  | 3, _ => rfl
theorem flat_length (l : List (BitVec 32)) : (l.flatMap wordBytes).length = 4 * l.length := by
  induction l with
  | nil => rfl
  | cons x l ih => simp [ih, wordBytes_length]; omega
set_option maxHeartbeats 2000000 in
set_option maxRecDepth 100000 in
theorem end_calls (st : St) (hl : st.rest.length ≤ 140737488355000) (w : World) (tabs : Tabs w) :
    Calls Tryz.prog 82 #[.agg st.cells] w fun e w' => e = .returned (.agg (bc (pEnd st))) ∧ Below w.heap.size w w' := by
  obtain ⟨⟨a, b, c, d, e, f, g, h⟩, rest, count⟩ := st
  simp only [St.cells]
  have hl : rest.length ≤ 140737488355000 := hl
  have hpl := padBytes_length rest.length count
  have hn64 : noughts rest.length < 64 := Nat.mod_lt _ (by decide)
  generalize hpd : padBytes rest.length count = pd at *
  have ea := append_str rest pd
  have n1 : ¬ 9223372036854775807 < rest.length + pd.length := by omega
  have Hpd := hide hpd
  have hpb : pd.length ≤ 72 := by omega
  clear hpd hpl
  go_enter Tryz.func82, Tryz.ntmps82
  go_wp2
  have q0 := (al2 w (.cells (St.mk ⟨a, b, c, d, e, f, g, h⟩ rest count).cells 129) (.cells (bc (List.replicate 32 0)) 24)).1
  have q1 := (al2 w (.cells (St.mk ⟨a, b, c, d, e, f, g, h⟩ rest count).cells 129) (.cells (bc (List.replicate 32 0)) 24)).2
  have hb2 := bel2 w (.cells (St.mk ⟨a, b, c, d, e, f, g, h⟩ rest count).cells 129) (.cells (bc (List.replicate 32 0)) 24)
  have z2 : ((w.alloc (.cells (St.mk ⟨a, b, c, d, e, f, g, h⟩ rest count).cells 129)).alloc (.cells (bc (List.replicate 32 0)) 24)).heap.size = w.heap.size + 1 + 1 := by simp
  generalize hw2 : (w.alloc (.cells (St.mk ⟨a, b, c, d, e, f, g, h⟩ rest count).cells 129)).alloc (.cells (bc (List.replicate 32 0)) 24) = w2 at *
  change Code.wp _ _ _ _ ((w.alloc (.cells (St.mk ⟨a, b, c, d, e, f, g, h⟩ rest count).cells 129)).alloc (.cells (bc (List.replicate 32 0)) 24))
  rw [hw2]
  have c0 : w2.cell? ⟨w.heap.size, 0, none⟩ = some (.int .u32 (a.toNat : Int)) := cell_of_row _ _ _ _ _ _ q0
  have c1 : w2.cell? ⟨w.heap.size, 1, none⟩ = some (.int .u32 (b.toNat : Int)) := cell_of_row _ _ _ _ _ _ q0
  have c2 : w2.cell? ⟨w.heap.size, 2, none⟩ = some (.int .u32 (c.toNat : Int)) := cell_of_row _ _ _ _ _ _ q0
  have c3 : w2.cell? ⟨w.heap.size, 3, none⟩ = some (.int .u32 (d.toNat : Int)) := cell_of_row _ _ _ _ _ _ q0
  have c4 : w2.cell? ⟨w.heap.size, 4, none⟩ = some (.int .u32 (e.toNat : Int)) := cell_of_row _ _ _ _ _ _ q0
  have c5 : w2.cell? ⟨w.heap.size, 5, none⟩ = some (.int .u32 (f.toNat : Int)) := cell_of_row _ _ _ _ _ _ q0
  have c6 : w2.cell? ⟨w.heap.size, 6, none⟩ = some (.int .u32 (g.toNat : Int)) := cell_of_row _ _ _ _ _ _ q0
  have c7 : w2.cell? ⟨w.heap.size, 7, none⟩ = some (.int .u32 (h.toNat : Int)) := cell_of_row _ _ _ _ _ _ q0
  have c8 : w2.cell? ⟨w.heap.size, 8, none⟩ = some (.string (str rest)) := cell_of_row _ _ _ _ _ _ q0
  have c9 : w2.cell? ⟨w.heap.size, 9, none⟩ = some (.int .u64 (count.toNat : Int)) := cell_of_row _ _ _ _ _ _ q0
  generalize hT : pThrough ⟨a, b, c, d, e, f, g, h⟩ (rest ++ pd) = T
  obtain ⟨⟨r0, r1, r2, r3, r4, r5, r6, r7⟩, m⟩ := T
  have tb2 : Tabs w2 := tabs.below' hb2
  have hzB : w.heap.size < w2.heap.size := by omega
  have hpad : ∀ w3, Below w2.heap.size w2 w3 → Calls Tryz.prog 87 #[.int .i64 (rest.length : Int), .int .u64 (count.toNat : Int)] w3 fun e w' => e = .returned (.string (str pd)) ∧ Below w2.heap.size w2 w' ∧ Below w3.heap.size w3 w' := fun w3 h3 => by
    refine (padding_calls rest.length (by omega) count _).mono ?_
    rintro en w' ⟨rfl, hb⟩
    rw [unhide Hpd]; exact ⟨rfl, h3.trans (hb.mono h3.size), hb⟩
  have hth : ∀ w3, Below w2.heap.size w2 w3 → Calls Tryz.prog 85 #[.agg #[.int .u32 (a.toNat : Int), .int .u32 (b.toNat : Int), .int .u32 (c.toNat : Int), .int .u32 (d.toNat : Int), .int .u32 (e.toNat : Int), .int .u32 (f.toNat : Int), .int .u32 (g.toNat : Int), .int .u32 (h.toNat : Int)], .string (str (rest ++ pd))] w3 fun en w' => en = .returned (.tuple #[.agg #[.int .u32 (r0.toNat : Int), .int .u32 (r1.toNat : Int), .int .u32 (r2.toNat : Int), .int .u32 (r3.toNat : Int), .int .u32 (r4.toNat : Int), .int .u32 (r5.toNat : Int), .int .u32 (r6.toNat : Int), .int .u32 (r7.toNat : Int)], .string (str m)]) ∧ Below w2.heap.size w2 w' ∧ Below w3.heap.size w3 w' := fun w3 h3 => by
    refine (through_calls ⟨a, b, c, d, e, f, g, h⟩ (rest ++ pd) (by simp [maxLen]; omega) _ (tb2.below' h3)).mono ?_
    rintro en w' ⟨rfl, hb⟩
    rw [hT]; exact ⟨rfl, h3.trans (hb.mono h3.size), hb⟩
  have HT := hide hT
  have Q1 := hide q1
  have Hpad := hide hpad
  have Hth := hide hth
  have Hz2 := hide z2
  clear hT q0 q1 hw2 tb2 hpad hth z2
  go_cut [3, 4] (fun p s wc => ∃ gg : Nat, p = .pointer (some ⟨gg, 0, none⟩) ∧ s = .string (str m) ∧ wc.heap[gg]? = some (.cells #[.int .u32 (r0.toNat : Int), .int .u32 (r1.toNat : Int), .int .u32 (r2.toNat : Int), .int .u32 (r3.toNat : Int), .int .u32 (r4.toNat : Int), .int .u32 (r5.toNat : Int), .int .u32 (r6.toNat : Int), .int .u32 (r7.toNat : Int)] 127 (0, 0)) ∧ w2.heap.size ≤ gg ∧ Below w2.heap.size w2 wc)
  case first =>
    have HS : Hid (∀ w', Below w2.heap.size w2 w' → w'.cell? ⟨w.heap.size, 0, none⟩ = some (.int .u32 (a.toNat : Int)) ∧ w'.cell? ⟨w.heap.size, 1, none⟩ = some (.int .u32 (b.toNat : Int)) ∧ w'.cell? ⟨w.heap.size, 2, none⟩ = some (.int .u32 (c.toNat : Int)) ∧ w'.cell? ⟨w.heap.size, 3, none⟩ = some (.int .u32 (d.toNat : Int)) ∧ w'.cell? ⟨w.heap.size, 4, none⟩ = some (.int .u32 (e.toNat : Int)) ∧ w'.cell? ⟨w.heap.size, 5, none⟩ = some (.int .u32 (f.toNat : Int)) ∧ w'.cell? ⟨w.heap.size, 6, none⟩ = some (.int .u32 (g.toNat : Int)) ∧ w'.cell? ⟨w.heap.size, 7, none⟩ = some (.int .u32 (h.toNat : Int)) ∧ w'.cell? ⟨w.heap.size, 8, none⟩ = some (.string (str rest)) ∧ w'.cell? ⟨w.heap.size, 9, none⟩ = some (.int .u64 (count.toNat : Int))) := fun w' hw => by
      have hc := fun o => hw.cell (p := ⟨w.heap.size, o, none⟩) hzB
      simp only [hc]
      exact ⟨c0, c1, c2, c3, c4, c5, c6, c7, c8, c9⟩
    go_region_held3 (fun w' => w'.cell? ⟨w.heap.size, 0, none⟩ = some (.int .u32 (a.toNat : Int)) ∧ w'.cell? ⟨w.heap.size, 1, none⟩ = some (.int .u32 (b.toNat : Int)) ∧ w'.cell? ⟨w.heap.size, 2, none⟩ = some (.int .u32 (c.toNat : Int)) ∧ w'.cell? ⟨w.heap.size, 3, none⟩ = some (.int .u32 (d.toNat : Int)) ∧ w'.cell? ⟨w.heap.size, 4, none⟩ = some (.int .u32 (e.toNat : Int)) ∧ w'.cell? ⟨w.heap.size, 5, none⟩ = some (.int .u32 (f.toNat : Int)) ∧ w'.cell? ⟨w.heap.size, 6, none⟩ = some (.int .u32 (g.toNat : Int)) ∧ w'.cell? ⟨w.heap.size, 7, none⟩ = some (.int .u32 (h.toNat : Int)) ∧ w'.cell? ⟨w.heap.size, 8, none⟩ = some (.string (str rest)) ∧ w'.cell? ⟨w.heap.size, 9, none⟩ = some (.int .u64 (count.toNat : Int)))
      (exact unhide HS _ (by (repeat' (first | with_reducible assumption | with_reducible exact Below.refl _ _ | with_reducible refine Below.drew ?_ | with_reducible refine Below.alloc ?_ ?_ _ | with_reducible refine Below.setCell ?_ ?_ _ | with_reducible exact Nat.le_refl _ | with_reducible exact Below.size (by with_reducible assumption) | (show w2.heap.size ≤ _; simp only [World.size_alloc, World.size_drew, World.size_setCell]; omega)))))
      (first
        | (go_at_call 87; refine (unhide Hpad _ ?_).mono ?_; (repeat' (first | with_reducible assumption | with_reducible exact Below.refl _ _ | with_reducible refine Below.drew ?_ | with_reducible refine Below.alloc ?_ ?_ _ | with_reducible refine Below.setCell ?_ ?_ _ | with_reducible exact Nat.le_refl _ | with_reducible exact Below.size (by with_reducible assumption) | (show w2.heap.size ≤ _; simp only [World.size_alloc, World.size_drew, World.size_setCell]; omega))); rintro e w' ⟨rfl, hbb, hbc⟩; obtain ⟨hk, hkf, hz2, hh⟩ := alloc_kept_drew hbc; clear hbc)
        | (go_at_call 87; refine (unhide Hpad _ ?_).mono ?_; (repeat' (first | with_reducible assumption | with_reducible exact Below.refl _ _ | with_reducible refine Below.drew ?_ | with_reducible refine Below.alloc ?_ ?_ _ | with_reducible refine Below.setCell ?_ ?_ _ | with_reducible exact Nat.le_refl _ | with_reducible exact Below.size (by with_reducible assumption) | (show w2.heap.size ≤ _; simp only [World.size_alloc, World.size_drew, World.size_setCell]; omega))); rintro e w' ⟨rfl, hbb, hbc⟩; clear hbc)
        | (go_at_call 85; refine (unhide Hth _ ?_).mono ?_; (repeat' (first | with_reducible assumption | with_reducible exact Below.refl _ _ | with_reducible refine Below.drew ?_ | with_reducible refine Below.alloc ?_ ?_ _ | with_reducible refine Below.setCell ?_ ?_ _ | with_reducible exact Nat.le_refl _ | with_reducible exact Below.size (by with_reducible assumption) | (show w2.heap.size ≤ _; simp only [World.size_alloc, World.size_drew, World.size_setCell]; omega))); rintro e w' ⟨rfl, hbb, hbc⟩; have hk2 : ∀ o : Nat, w'.cell? ⟨w2.heap.size, o, none⟩ = (#[.int .u32 0, .int .u32 0, .int .u32 0, .int .u32 0, .int .u32 0, .int .u32 0, .int .u32 0, .int .u32 0] : Array Value)[o]? := fun o => (hbc.cell (p := ⟨w2.heap.size, o, none⟩) hz2).trans (hk o); have hkf2 : ∀ o : Nat, w'.frozen? ⟨w2.heap.size, o, none⟩ = false := fun o => (hbc.frozen (p := ⟨w2.heap.size, o, none⟩) hz2).trans (hkf o); have hh2 := hide ((hbc.block _ hz2).trans (unhide hh)); clear hk hkf hbc hh)
        | (go_at_call 85; refine (unhide Hth _ ?_).mono ?_; (repeat' (first | with_reducible assumption | with_reducible exact Below.refl _ _ | with_reducible refine Below.drew ?_ | with_reducible refine Below.alloc ?_ ?_ _ | with_reducible refine Below.setCell ?_ ?_ _ | with_reducible exact Nat.le_refl _ | with_reducible exact Below.size (by with_reducible assumption) | (show w2.heap.size ≤ _; simp only [World.size_alloc, World.size_drew, World.size_setCell]; omega))); rintro e w' ⟨rfl, hbb, hbc⟩; obtain ⟨hk, hkf, hz2, hh⟩ := alloc_kept hbc; clear hbc)
        | (go_at_call 85; refine (unhide Hth _ ?_).mono ?_; (repeat' (first | with_reducible assumption | with_reducible exact Below.refl _ _ | with_reducible refine Below.drew ?_ | with_reducible refine Below.alloc ?_ ?_ _ | with_reducible refine Below.setCell ?_ ?_ _ | with_reducible exact Nat.le_refl _ | with_reducible exact Below.size (by with_reducible assumption) | (show w2.heap.size ≤ _; simp only [World.size_alloc, World.size_drew, World.size_setCell]; omega))); rintro e w' ⟨rfl, hbb, hbc⟩; clear hbc))
    · go_wp2
      go_meet
      case rel => exact ⟨_, rfl, rfl, al1 _ _, by (repeat' (first | with_reducible assumption | with_reducible exact Below.refl _ _ | with_reducible refine Below.drew ?_ | with_reducible refine Below.alloc ?_ ?_ _ | with_reducible refine Below.setCell ?_ ?_ _ | with_reducible exact Nat.le_refl _ | with_reducible exact Below.size (by with_reducible assumption) | (show w2.heap.size ≤ _; simp only [World.size_alloc, World.size_drew, World.size_setCell]; omega))), by (repeat' (first | with_reducible assumption | with_reducible exact Below.refl _ _ | with_reducible refine Below.drew ?_ | with_reducible refine Below.alloc ?_ ?_ _ | with_reducible refine Below.setCell ?_ ?_ _ | with_reducible exact Nat.le_refl _ | with_reducible exact Below.size (by with_reducible assumption) | (show w2.heap.size ≤ _; simp only [World.size_alloc, World.size_drew, World.size_setCell]; omega)))⟩
    · go_wp2
      go_meet
      case rel =>
        refine ⟨_, rfl, rfl, ?_, by (repeat' (first | with_reducible assumption | with_reducible exact Below.refl _ _ | with_reducible refine Below.drew ?_ | with_reducible refine Below.alloc ?_ ?_ _ | with_reducible refine Below.setCell ?_ ?_ _ | with_reducible exact Nat.le_refl _ | with_reducible exact Below.size (by with_reducible assumption) | (show w2.heap.size ≤ _; simp only [World.size_alloc, World.size_drew, World.size_setCell]; omega))), by (repeat' (first | with_reducible assumption | with_reducible exact Below.refl _ _ | with_reducible refine Below.drew ?_ | with_reducible refine Below.alloc ?_ ?_ _ | with_reducible refine Below.setCell ?_ ?_ _ | with_reducible exact Nat.le_refl _ | with_reducible exact Below.size (by with_reducible assumption) | (show w2.heap.size ≤ _; simp only [World.size_alloc, World.size_drew, World.size_setCell]; omega)))⟩
        exact set8 _ _ _ _ _ _ _ _ _ _ _ _ _ _ _ _ _ _ _ (unhide hh)
    · go_wp2
      go_meet
      case rel =>
        refine ⟨_, rfl, rfl, ?_, by (repeat' (first | with_reducible assumption | with_reducible exact Below.refl _ _ | with_reducible refine Below.drew ?_ | with_reducible refine Below.alloc ?_ ?_ _ | with_reducible refine Below.setCell ?_ ?_ _ | with_reducible exact Nat.le_refl _ | with_reducible exact Below.size (by with_reducible assumption) | (show w2.heap.size ≤ _; simp only [World.size_alloc, World.size_drew, World.size_setCell]; omega))), by (repeat' (first | with_reducible assumption | with_reducible exact Below.refl _ _ | with_reducible refine Below.drew ?_ | with_reducible refine Below.alloc ?_ ?_ _ | with_reducible refine Below.setCell ?_ ?_ _ | with_reducible exact Nat.le_refl _ | with_reducible exact Below.size (by with_reducible assumption) | (show w2.heap.size ≤ _; simp only [World.size_alloc, World.size_drew, World.size_setCell]; omega)))⟩
        exact set8 _ _ _ _ _ _ _ _ _ _ _ _ _ _ _ _ _ _ _ (unhide hh2)
  case rest =>
    clear Hpad Hth c0 c1 c2 c3 c4 c5 c6 c7 c8 c9
    obtain ⟨gg, rfl, rfl, qg, hgg, hbw⟩ := hcut
    obtain ⟨rl, hrl, hrlen⟩ : ∃ rl : List (BitVec 32), Hid ([r0, r1, r2, r3, r4, r5, r6, r7] = rl) ∧ rl.length = 8 := ⟨_, rfl, rfl⟩
    have hglt : gg < wc.heap.size := by
      by_cases hlt : gg < wc.heap.size
      · exact hlt
      · rw [Array.getElem?_eq_none (by omega)] at qg; cases qg
    have qg' : ∀ o, (wc.alloc o).heap[gg]? = some (.cells (Go.Proofs.YtocibklkpnblgaaGreatDoor.wc rl) 127 (0, 0)) := fun o => by
      rw [Below.heap_alloc _ _ _ hglt, qg, ← unhide hrl]; rfl
    have hir : (Tryz.prog.info? 127).map (·.size) = some (Go.Proofs.YtocibklkpnblgaaGreatDoor.wc rl).size := by rw [wc_size, hrlen]; kernel_rfl
    have hd := al1 wc (.cells (bc (List.replicate 32 0)) 24)
    have hres : wc.heap[w.heap.size + 1]? = some (.cells (bc (List.replicate 32 0)) 24 (0, 0)) := Below.at hbw (by have := unhide Hz2; omega) (unhide Q1)
    have hzc : w.heap.size + 1 < wc.heap.size := by have := hbw.size; have := unhide Hz2; omega
    have hres' := (Below.heap_alloc wc (.cells (bc (List.replicate 32 0)) 24) _ hzc).trans hres
    have hbel : Below w.heap.size w (wc.alloc (.cells (bc (List.replicate 32 0)) 24)) := (hb2.trans (hbw.mono (by have := unhide Hz2; omega))).alloc (by omega) _
    have Hd := hide hd
    have Hr := hide hres'
    clear qg hres hd hres' hbw hgg
    go_wp2_with (refine wpList_load_row rfl 127 (.tmp 3) rfl gg rfl 127 _ (0, 0) _ (qg' _) Tryz.underlying127 rfl hir ?_)
    clear qg' hir
    generalize hBd : wc.heap.size = Bd at *
    clear hBd
    go_loopw [25] (fun i wr => ∃ k : Nat, k ≤ 8 ∧ i = .int .i64 k ∧ Below w.heap.size w wr ∧ wr.heap[Bd]? = some (.cells (bc ((rl.take k).flatMap wordBytes ++ List.replicate (32 - 4 * k) 0)) 24 (0, 0)) ∧ wr.heap[w.heap.size + 1]? = some (.cells (bc (List.replicate 32 0)) 24 (0, 0))) (fun i _ => 8 - (intOf i).toNat)
    case atStart => exact ⟨0, by omega, rfl, hbel, unhide Hd, unhide Hr⟩
    case round =>
      clear hbel Hd Hr
      obtain ⟨k, hk, rfl, hb, q, qr⟩ := hrel
      by_cases hlt : k < 8
      · have hidx := index8 rl hrlen k hlt
        generalize hx : rl.getD k 0 = x at hidx
        have Hx := hide hx
        clear hx
        have hdk : decide ((k : Int) < 8) = true := by simp; omega
        generalize hpre : (rl.take k).flatMap wordBytes = pre at q
        have hplen : pre.length = 4 * k := by rw [← hpre, flat_length, List.length_take, hrlen]; omega
        have Hpre := hide hpre
        have Hpl := hide hplen
        clear hpre hplen
        go_wp2
        go_loopw [29] (fun i wr => ∃ j : Nat, j ≤ 4 ∧ i = .int .i64 j ∧ Below w.heap.size w wr ∧ wr.heap[Bd]? = some (.cells (bc (pre ++ (wordBytes x).take j ++ List.replicate (32 - 4 * k - j) 0)) 24 (0, 0)) ∧ wr.heap[w.heap.size + 1]? = some (.cells (bc (List.replicate 32 0)) 24 (0, 0))) (fun i _ => 4 - (intOf i).toNat)
        case atStart => exact ⟨0, by omega, rfl, hb, by rw [q]; simp, qr⟩
        case round =>
          clear hb q qr
          obtain ⟨j, hj, rfl, hb, q, qr⟩ := hrel
          by_cases hjl : j < 4
          · have hl : (pre ++ (wordBytes x).take j).length = 4 * k + j := by rw [List.length_append, unhide Hpl, List.length_take, wordBytes_length]; omega
            have hz : List.replicate (32 - 4 * k - j) (0 : UInt8) = 0 :: List.replicate (32 - 4 * k - (j + 1)) 0 := by rw [show 32 - 4 * k - j = (32 - 4 * k - (j + 1)) + 1 by omega]; rfl
            rw [hz] at q
            have c : wr.cell? ⟨Bd, 4 * k + j, none⟩ = some (.int .u8 (((pre ++ (wordBytes x).take j ++ 0 :: List.replicate (32 - 4 * k - (j + 1)) 0).getD (4 * k + j) 0).toNat : Int)) := by
              rw [cell_of_row _ _ _ _ _ _ q]; exact bc_at _ _ (by rw [List.length_append, hl]; simp)
            generalize hv : (pre ++ (wordBytes x).take j ++ 0 :: List.replicate (32 - 4 * k - (j + 1)) 0).getD (4 * k + j) 0 = v at c
            have fz : wr.frozen? ⟨Bd, 4 * k + j, none⟩ = false := frozen_of_row _ _ _ _ _ q
            have b1 : (0 : Int) ≤ 4 * k + j ∧ (4 : Int) * k + j < 32 := by omega
            have b2 : (4 * (k : Int) + (j : Int)).toNat = 4 * k + j := by omega
            obtain ⟨sh, hsh, esh⟩ : ∃ sh : Nat, Hid (24 - 8 * j = sh) ∧ (24 : Int) - 8 * (j : Int) = (sh : Int) := ⟨_, rfl, by omega⟩
            have hs24 : sh ≤ 24 := by have := unhide hsh; omega
            have Hl := hide hl
            have Hq := hide q
            have hBlt : w.heap.size ≤ Bd := by omega
            clear hz hl hv q
            go_wp2
            go_roundw
            case rel =>
              refine ⟨j + 1, by omega, by go_num, hb.setCell (by simp; omega) _, ?_, ?_⟩
              · rw [byte_mod, ← unhide hsh, ← wordBytes_at x j hjl, heap_setCell_same _ _ _ _ _ _ (unhide Hq), bc_set _ _ _ _ _ (unhide Hl).symm, take_snoc' _ _ 0 (by rw [wordBytes_length]; omega)]
                simp
              · rw [heap_setCell_other _ _ _ _ (by simp; omega)]; exact qr
            case measure => simp [intOf]; omega
          · have hdj : decide ((j : Int) < 4) = false := by simp; omega
            have q' : wr.heap[Bd]? = some (.cells (bc ((rl.take (k + 1)).flatMap wordBytes ++ List.replicate (32 - 4 * (k + 1)) 0)) 24 (0, 0)) := by
              rw [q, show j = 4 by omega, take_snoc' rl k 0 (by omega), List.flatMap_append, unhide Hpre, unhide Hx, List.take_of_length_le (by rw [wordBytes_length]; omega), show 32 - 4 * k - 4 = 32 - 4 * (k + 1) by omega]
              simp
            clear q
            go_wp2
            go_roundw
            case rel => exact ⟨k + 1, by omega, by go_num, hb, q', qr⟩
            case measure => simp [intOf]; omega
      · have hdk : decide ((k : Int) < 8) = false := by simp; omega
        have hend : pEnd ⟨⟨a, b, c, d, e, f, g, h⟩, rest, count⟩ = rl.flatMap wordBytes := by
          simp only [pEnd]; rw [unhide Hpd, unhide HT, ← unhide hrl]; rfl
        have q' : wr.heap[Bd]? = some (.cells (bc (pEnd ⟨⟨a, b, c, d, e, f, g, h⟩, rest, count⟩)) 24 (0, 0)) := by
          rw [q, show k = 8 by omega, hend, List.take_of_length_le (by omega)]; simp
        generalize hE : pEnd ⟨⟨a, b, c, d, e, f, g, h⟩, rest, count⟩ = res at q' hend
        have HE := hide hE
        have hil : (Tryz.prog.info? 24).map (·.size) = some (bc res).size := by rw [bc_size, hend, flat_length, hrlen]; kernel_rfl
        have ho1 := bc_oneCell res
        have hsz : (bc (List.replicate 32 (0 : UInt8))).size = (bc res).size := by rw [bc_size, bc_size, hend, flat_length, hrlen]; rfl
        clear q hend hE
        go_wp2_with (first
          | (refine wpList_load_row rfl 24 (.tmp 5) rfl Bd rfl 24 _ (0, 0) _ q' Tryz.underlying24 rfl hil ?_)
          | (refine wpList_store_row rfl 24 (.tmp 2) (.tmp 45) rfl (w.heap.size + 1) _ rfl rfl 24 _ qr hil hsz ho1 ?_))
        exact bodyPost_ret (results_cell_row rfl _ _ (w.heap.size + 1) _ _ _ _ rfl (setRow_heap _ _ _ _ _ _ qr) Tryz.underlying24 rfl hil) rfl ⟨by rw [unhide HE], below_setRow hb (by simp) _⟩
end Go.Proofs.YtocibklkpnblgaaGreatDoor

namespace Go.Proofs.YtocibklkpnblgaaGreatDoor
open Go.RowKit
set_option linter.unusedSimpArgs false
set_option linter.unusedVariables false

/-- The digest of parts. -/
def pSum (parts : List (List UInt8)) : List UInt8 := pEnd (parts.foldl pAdd pBegin)
theorem pEnd_length (t : St) : (pEnd t).length = 32 := S8.bytes_length _
theorem pSum_length (parts : List (List UInt8)) : (pSum parts).length = 32 := pEnd_length _
/-- Strings in a row of memory. -/
def StrsAt (w : World) (a : Option Addr) (parts : List (List UInt8)) : Prop :=
  parts = [] ∨ ∃ b o, a = some ⟨b, o, none⟩ ∧ b < w.heap.size ∧ ∀ j, j < parts.length → w.cell? ⟨b, o + j, none⟩ = some (.string (str (parts.getD j [])))
theorem StrsAt.below {w w' : World} {B : Nat} {a : Option Addr} {parts : List (List UInt8)} (h : StrsAt w a parts) (hb : Below B w w') (hB : w.heap.size ≤ B) : StrsAt w' a parts := by
  rcases h with h | ⟨b, o, rfl, hlt, hc⟩
  · exact .inl h
  · exact .inr ⟨b, o, rfl, Nat.lt_of_lt_of_le hlt hb.size, fun j hj => by rw [hb.cell (p := ⟨b, o + j, none⟩) (by show b < B; omega)]; exact hc j hj⟩
theorem foldl_take_succ {α β : Type} (f : β → α → β) (b : β) (l : List α) (k : Nat) (d : α) (h : k < l.length) : (l.take (k + 1)).foldl f b = f ((l.take k).foldl f b) (l.getD k d) := by
  rw [take_snoc' l k d h, List.foldl_append]; rfl
theorem add_rest (t : St) (l : List UInt8) : (pAdd t l).rest.length < 64 := (pThrough_rest_le _ _).1
theorem fold_rest (parts : List (List UInt8)) : (parts.foldl pAdd pBegin).rest.length < 64 := by
  rcases List.eq_nil_or_concat parts with rfl | ⟨l, x, rfl⟩
  · decide
  · rw [List.concat_eq_append, List.foldl_append]; exact add_rest _ _

set_option maxHeartbeats 1000000 in
set_option maxRecDepth 100000 in
theorem sum_some (parts : List (List UInt8)) (hp : ∀ p ∈ parts, p.length ≤ 70368744177664) (hn : parts.length ≤ 70368744177664) (b o : Nat) (cap : Nat) (w : World) (hlt : b < w.heap.size) (hc : ∀ j, j < parts.length → w.cell? ⟨b, o + j, none⟩ = some (.string (str (parts.getD j [])))) (tabs : Tabs w) :
    Calls Tryz.prog 74 #[.slice (some ⟨b, o, none⟩) parts.length cap] w fun e w' => e = .returned (.agg (bc (pSum parts))) ∧ Below w.heap.size w w' := by
  go_enter Tryz.func74, Tryz.ntmps74
  go_wp2_with fail
  refine (begin_calls _ (tabs.below' ((Below.refl _ _).alloc (Nat.le_refl _) _))).mono ?_
  rintro en w1 ⟨rfl, hb1⟩
  have hb0 : Below w.heap.size w w1 := ((Below.refl _ _).alloc (Nat.le_refl _) _).trans (hb1.mono (by simp))
  have z1 : w.heap.size < w1.heap.size := by have := hb1.size; simp at this; omega
  have q0 : w1.heap[w.heap.size]? = some (.cells (bc (List.replicate 32 0)) 24 (0, 0)) := Below.at hb1 (by simp) (al1 _ _)
  clear hb1
  have hiS : ∀ st : St, (Tryz.prog.info? 129).map (·.size) = some st.cells.size := fun st => by show _ = some 10; kernel_rfl
  have hi0 := hiS pBegin
  have ho0 := St.oneCell pBegin
  have HiS := hide hiS
  clear hiS
  go_wp2_with (refine wpList_store_row rfl 129 (.tmp 3) (.tmp 6) rfl w1.heap.size _ rfl rfl 129 _ (al1 _ _) hi0 rfl ho0 ?_)
  have q1 := setRow_heap _ _ _ pBegin.cells _ _ (al1 w1 (.cells (St.mk ⟨0, 0, 0, 0, 0, 0, 0, 0⟩ [] 0).cells 129))
  have q0' := (setRow_other (w1.alloc (.cells (St.mk ⟨0, 0, 0, 0, 0, 0, 0, 0⟩ [] 0).cells 129)) w1.heap.size w.heap.size pBegin.cells (by omega)).trans ((Below.heap_alloc w1 _ _ z1).trans q0)
  have hb2 := below_setRow (hb0.alloc (by omega) (.cells (St.mk ⟨0, 0, 0, 0, 0, 0, 0, 0⟩ [] 0).cells 129)) (Nat.le_of_lt z1) pBegin.cells
  have HQ1 := hide q1
  have HQ0 := hide q0'
  have HB2 := hide hb2
  clear hb0 q0 q1 q0' hb2 hi0 ho0
  go_loopw [9] (fun i wr => ∃ k : Nat, k ≤ parts.length ∧ i = .int .i64 k ∧ Below w.heap.size w wr ∧ w1.heap.size < wr.heap.size ∧ wr.heap[w1.heap.size]? = some (.cells ((parts.take k).foldl pAdd pBegin).cells 129 (0, 0)) ∧ wr.heap[w.heap.size]? = some (.cells (bc (List.replicate 32 0)) 24 (0, 0))) (fun i _ => parts.length - (intOf i).toNat)
  case atStart => exact ⟨0, by omega, rfl, unhide HB2, by simp, unhide HQ1, unhide HQ0⟩
  case round =>
    clear HB2 HQ1 HQ0
    obtain ⟨k, hk, rfl, hb, hz, q1, q0⟩ := hrel
    generalize hBs : w1.heap.size = Bs at *
    clear hBs
    by_cases hlk : k < parts.length
    · have hdk : decide ((k : Int) < (parts.length : Int)) = true := by simp; omega
      have bk : (0 : Int) ≤ k ∧ (k : Int) < (parts.length : Int) := by omega
      have c : wr.cell? ⟨b, o + k, none⟩ = some (.string (str (parts.getD k []))) := by rw [hb.cell (p := ⟨b, o + k, none⟩) hlt]; exact hc k hlk
      have hfold := foldl_take_succ pAdd pBegin parts k [] hlk
      have hpk : (parts.getD k []).length ≤ 70368744177664 := by
        rw [List.getD_eq_getElem?_getD, List.getElem?_eq_getElem hlk]; exact hp _ (List.getElem_mem _)
      have hrest := fold_rest (parts.take k)
      generalize hpt : parts.getD k [] = pt at c hfold hpk
      generalize hst : (parts.take k).foldl pAdd pBegin = st at q1 hfold hrest
      have tb := tabs.below hb (Nat.le_refl _)
      have hi1 := unhide HiS st
      have Hfold := hide hfold
      clear hpt hst hfold
      go_wp2_with (first
        | (refine wpList_load_row rfl 129 (.tmp 3) rfl Bs rfl 129 _ (0, 0) _ q1 Tryz.underlying129 rfl hi1 ?_)
        | (go_at_call 81; fail))
      refine (add_calls st pt (by omega) _ tb).mono ?_
      rintro en w3 ⟨rfl, hb3⟩
      have q1' := Below.at hb3 hz q1
      have q0' := Below.at hb3 (by omega) q0
      have z3 := hb3.size
      have hi2 := unhide HiS (pAdd st pt)
      have ho2 := St.oneCell (pAdd st pt)
      go_wp2_with (refine wpList_store_row rfl 129 (.tmp 3) (.tmp 15) rfl Bs _ rfl rfl 129 _ q1' hi2 rfl ho2 ?_)
      go_roundw
      case rel =>
        refine ⟨k + 1, by omega, by go_num, below_setRow (hb.trans (hb3.mono (by omega))) (by omega) _, by rw [setRow_size]; omega, ?_, ?_⟩
        · rw [unhide Hfold]; exact setRow_heap _ _ _ _ _ _ q1'
        · rw [setRow_other _ _ _ _ (by omega)]; exact q0'
      case measure => simp [intOf]; omega
    · have hdk : decide ((k : Int) < (parts.length : Int)) = false := by simp; omega
      rw [List.take_of_length_le (by omega)] at q1
      have tb := tabs.below hb (Nat.le_refl _)
      have hrest := fold_rest parts
      generalize hst : (parts).foldl pAdd pBegin = st at q1 hrest
      have Hst := hide hst
      have hi1 := unhide HiS st
      clear hst
      go_wp2_with (refine wpList_load_row rfl 129 (.tmp 3) rfl Bs rfl 129 _ (0, 0) _ q1 Tryz.underlying129 rfl hi1 ?_)
      refine (end_calls st (by omega) _ tb).mono ?_
      rintro en w3 ⟨rfl, hb3⟩
      have q0' := Below.at hb3 (by omega) q0
      have hil : (Tryz.prog.info? 24).map (·.size) = some (bc (pEnd st)).size := by rw [bc_size, pEnd_length]; kernel_rfl
      have ho1 := bc_oneCell (pEnd st)
      have hsz : (bc (List.replicate 32 (0 : UInt8))).size = (bc (pEnd st)).size := by rw [bc_size, bc_size, pEnd_length]; rfl
      go_wp2_with (refine wpList_store_row rfl 24 (.tmp 2) (.tmp 18) rfl w.heap.size _ rfl rfl 24 _ q0' hil hsz ho1 ?_)
      exact bodyPost_ret (results_cell_row rfl _ _ w.heap.size _ _ _ _ rfl (setRow_heap _ _ _ _ _ _ q0') Tryz.underlying24 rfl hil) rfl ⟨by rw [pSum, unhide Hst], below_setRow (hb.trans (hb3.mono (by omega))) (Nat.le_refl _) _⟩

set_option maxHeartbeats 1000000 in
set_option maxRecDepth 100000 in
theorem sum_none (a : Option Addr) (cap : Nat) (w : World) (tabs : Tabs w) :
    Calls Tryz.prog 74 #[.slice a 0 cap] w fun e w' => e = .returned (.agg (bc (pSum []))) ∧ Below w.heap.size w w' := by
  go_enter Tryz.func74, Tryz.ntmps74
  go_wp2_with fail
  refine (begin_calls _ (tabs.below' ((Below.refl _ _).alloc (Nat.le_refl _) _))).mono ?_
  rintro en w1 ⟨rfl, hb1⟩
  have hb0 : Below w.heap.size w w1 := ((Below.refl _ _).alloc (Nat.le_refl _) _).trans (hb1.mono (by simp))
  have z1 : w.heap.size < w1.heap.size := by have := hb1.size; simp at this; omega
  have q0 : w1.heap[w.heap.size]? = some (.cells (bc (List.replicate 32 0)) 24 (0, 0)) := Below.at hb1 (by simp) (al1 _ _)
  clear hb1
  have hiS : ∀ st : St, (Tryz.prog.info? 129).map (·.size) = some st.cells.size := fun st => by show _ = some 10; kernel_rfl
  have hi0 := hiS pBegin
  have ho0 := St.oneCell pBegin
  have HiS := hide hiS
  clear hiS
  go_wp2_with (refine wpList_store_row rfl 129 (.tmp 3) (.tmp 6) rfl w1.heap.size _ rfl rfl 129 _ (al1 _ _) hi0 rfl ho0 ?_)
  have q1 := setRow_heap _ _ _ pBegin.cells _ _ (al1 w1 (.cells (St.mk ⟨0, 0, 0, 0, 0, 0, 0, 0⟩ [] 0).cells 129))
  have q0' := (setRow_other (w1.alloc (.cells (St.mk ⟨0, 0, 0, 0, 0, 0, 0, 0⟩ [] 0).cells 129)) w1.heap.size w.heap.size pBegin.cells (by omega)).trans ((Below.heap_alloc w1 _ _ z1).trans q0)
  have hb2 := below_setRow (hb0.alloc (by omega) (.cells (St.mk ⟨0, 0, 0, 0, 0, 0, 0, 0⟩ [] 0).cells 129)) (Nat.le_of_lt z1) pBegin.cells
  have HQ1 := hide q1
  have HQ0 := hide q0'
  have HB2 := hide hb2
  clear hb0 q0 q1 q0' hb2 hi0 ho0
  go_loopw [9] (fun i wr => ∃ k : Nat, k ≤ 0 ∧ i = .int .i64 k ∧ Below w.heap.size w wr ∧ w1.heap.size < wr.heap.size ∧ wr.heap[w1.heap.size]? = some (.cells ((([] : List (List UInt8)).take k).foldl pAdd pBegin).cells 129 (0, 0)) ∧ wr.heap[w.heap.size]? = some (.cells (bc (List.replicate 32 0)) 24 (0, 0))) (fun i _ => 0 - (intOf i).toNat)
  case atStart => exact ⟨0, by omega, rfl, unhide HB2, by simp, unhide HQ1, unhide HQ0⟩
  case round =>
    clear HB2 HQ1 HQ0
    obtain ⟨k, hk, rfl, hb, hz, q1, q0⟩ := hrel
    generalize hBs : w1.heap.size = Bs at *
    clear hBs
    rw [List.take_nil] at q1
    have hdk : decide ((k : Int) < 0) = false := by simp
    have tb := tabs.below hb (Nat.le_refl _)
    have hrest := fold_rest []
    generalize hst : ([] : List (List UInt8)).foldl pAdd pBegin = st at q1 hrest
    have Hst := hide hst
    have hi1 := unhide HiS st
    clear hst
    go_wp2_with (refine wpList_load_row rfl 129 (.tmp 3) rfl Bs rfl 129 _ (0, 0) _ q1 Tryz.underlying129 rfl hi1 ?_)
    refine (end_calls st (by omega) _ tb).mono ?_
    rintro en w3 ⟨rfl, hb3⟩
    have q0' := Below.at hb3 (by omega) q0
    have hil : (Tryz.prog.info? 24).map (·.size) = some (bc (pEnd st)).size := by rw [bc_size, pEnd_length]; kernel_rfl
    have ho1 := bc_oneCell (pEnd st)
    have hsz : (bc (List.replicate 32 (0 : UInt8))).size = (bc (pEnd st)).size := by rw [bc_size, bc_size, pEnd_length]; rfl
    go_wp2_with (refine wpList_store_row rfl 24 (.tmp 2) (.tmp 18) rfl w.heap.size _ rfl rfl 24 _ q0' hil hsz ho1 ?_)
    exact bodyPost_ret (results_cell_row rfl _ _ w.heap.size _ _ _ _ rfl (setRow_heap _ _ _ _ _ _ q0') Tryz.underlying24 rfl hil) rfl ⟨by rw [pSum, unhide Hst], below_setRow (hb.trans (hb3.mono (by omega))) (Nat.le_refl _) _⟩

theorem sum_calls (parts : List (List UInt8)) (hp : ∀ p ∈ parts, p.length ≤ 70368744177664) (hn : parts.length ≤ 70368744177664) (a : Option Addr) (cap : Nat) (w : World) (hs : StrsAt w a parts) (tabs : Tabs w) :
    Calls Tryz.prog 74 #[.slice a parts.length cap] w fun e w' => e = .returned (.agg (bc (pSum parts))) ∧ Below w.heap.size w w' := by
  rcases hs with rfl | ⟨b, o, rfl, hlt, hc⟩
  · exact sum_none a cap w tabs
  · exact sum_some parts hp hn b o cap w hlt hc tabs
end Go.Proofs.YtocibklkpnblgaaGreatDoor
