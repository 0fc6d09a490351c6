/-
  WHAT THE DOCUMENT's OWN Of, Branch, Climb, Proves OF LAYER 7 RETURN, where there is no log.
-/
/-
  WHAT THE DOCUMENT's OWN Insert AND Root OF LAYER 7 RETURN, where there is no log.
-/
/-
  WHAT merkle's Keep RETTryd.underlying27NS.
-/
/-
  WHAT THE DOCUMENT's OWN Keep OF LAYER 7 RETURNS, where there is no log.
-/
/-
  append(x[:n:n], make([]Digest, m)...): WHAT IT ANSWERS: a list of digests in a new block, with noughts behind.
-/
/-
  == OF A KEPT TREE WITH ITSELF.
-/
/-
  MerkleLists: the root of any leaves, and their tree, are the document's.
-/
/-
  WHAT THE ROWS OF LAYER 1 LIST GIVES THE WALKS: the two tables of package sha, read as the program's text lays them.
-/
/-
  ARRAYS OF NUMBERS AS ARGUMENTS: what a row hands the walks. Over whatever program.
-/
/-
  A DIGEST AS THE ARGUMENT OF A ROW.
-/
/-
  LISTS OF DIGESTS AS ARGUMENTS: what a row hands the walks.
-/
import Derived.Test.YtkioomojdahjlaaDoorJ4
import Derived.Test.YtkioomojdahjlaaDoorJ3
import Derived.Lib.AppendZeros
import Derived.Test.YtkioomojdahjlaaDoorJ0
import Derived.Test.YtkioomojdahjlaaDoorCards
import Derived.Test.YtkioomojdahjlaaDoorTie
import Derived.ProofKit
import Derived.OpenShut
import Derived.Deep.DeepHandedRow
import Derived.Lib.LaidTab
import Derived.WideKeyArr2
import Derived.ChangeMaps5
import Derived.Deep.Slices
import Derived.Lib.SmallJoins
namespace Go.Proofs.YtkioomojdahjlaaDoor
open Go Go.RowKit
set_option linter.unusedSimpArgs false
set_option linter.unusedVariables false

set_option maxHeartbeats 1000000 in
set_option maxRecDepth 100000 in
theorem rof_calls (ds : List (List UInt8)) (p : Option Addr) (cap : Nat) (hcap : ds.length ≤ cap) (hlen : ds.length ≤ 100000000) (w : World) (hD : DL w p ds) :
    Calls Tryd.prog 14 #[.pointer none, .slice p ds.length cap] w fun e w' => e = .returned (.agg (bc (pOfD ds))) ∧ Below w.heap.size w w' := by
  have a1 := al1 w (.cells (bc (List.replicate 32 0)) 24)
  have b1 := hide ((Below.refl w.heap.size w).alloc (Nat.le_refl _) (.cells (bc (List.replicate 32 0)) 24))
  have zX := hide (Array.getElem?_eq_some_iff.1 a1).1
  have cf := hide fun w => rfirst_calls p ds.length cap hcap (by omega) w
  have htk : min ds.length 4096 = (ds.take 4096).length := by simp; omega
  rw [htk] at cf
  have hlen' : (ds.take 4096).length ≤ 100000000 := by simp; omega
  have e32 : pOfD ds = st (ds.take 4096) 32 0 := by unfold pOfD; rw [stand_st]
  have hDt := hide (hD.take 4096)
  have cN := hide fun w => rnoughts_calls w
  have cn := hide fun pz cz W (h : DL W pz ((List.range 33).map pNought)) (h2 : DL W p (ds.take 4096)) => rnode_calls (ds.take 4096) hlen' pz p cz cap 32 (Nat.le_refl _) 0 (by decide) W h h2
  have hl := st_length (ds.take 4096) (hD.take 4096).1 32 0
  rw [e32]
  obtain ⟨D, hDD⟩ : ∃ D, st (ds.take 4096) 32 0 = D := ⟨_, rfl⟩
  rw [hDD] at cn hl
  rw [hDD]
  have hi := digInfo D hl
  have hz := zeroSize D hl
  have ho := bc_oneCell D
  rw [show ((32 : Nat) : Int) = 32 from rfl, show ((0 : Nat) : Int) = 0 from rfl] at cn
  generalize ds.take 4096 = es at *
  clear hD e32 hDD hl htk hlen'
  go_enter Tryd.func14, Tryd.ntmps14
  go_wp2_with fail
  refine (unhide cN _).mono ?_
  rintro e w2 ⟨⟨pz, cz, rfl, hcz, dZ⟩, b2⟩
  have q2 := Below.at b2 (unhide zX) a1
  have bb2 := (unhide b1).trans (b2.mono (Nat.le_of_lt (unhide zX)))
  have d2 := (unhide hDt).below bb2 (Nat.le_refl _)
  have z2 : w.heap.size < w2.heap.size := Nat.lt_of_lt_of_le (unhide zX) b2.size
  clear b2 a1 b1
  go_wp2_with fail
  refine (unhide cf _).mono ?_
  rintro e w3 ⟨rfl, rfl⟩
  go_wp2_with fail
  refine (unhide cn _ _ _ dZ d2).mono ?_
  rintro e w4 ⟨rfl, b4⟩
  have q4 := Below.at b4 z2 q2
  have bb4 := bb2.trans (b4.mono (Nat.le_of_lt z2))
  go_wp2_with (refine wpList_store_row rfl 24 (.tmp 4) (.tmp 10) rfl w.heap.size (bc D) rfl rfl 24 _ q4 hi hz ho ?_)
  exact bodyPost_ret (results_cell_row rfl _ _ w.heap.size _ _ _ _ rfl (setRow_heap _ _ _ _ _ _ q4) Tryd.underlying24 rfl hi) rfl ⟨rfl, below_setRow bb4 (Nat.le_refl _) _⟩
set_option maxHeartbeats 400000 in
theorem rbranch_arg (ds : List (List UInt8)) (p : Option Addr) (cap : Nat) (x : Int) (hx : x < 0 ∨ (ds.length : Int) ≤ x) (w : World) :
    Calls Tryd.prog 18 #[.pointer none, .slice p ds.length cap, .int .i64 x] w fun e w' => e = .returned (.tuple #[.slice none 0 0, .int .i64 2]) ∧ w' = w := by
  have d : (decide (x < 0) = true) ∨ (decide (x < 0) = false ∧ decide ((ds.length : Int) ≤ x) = true) := by
    by_cases h : x < 0
    · exact .inl (by simpa using h)
    · exact .inr ⟨by simpa using h, by simp; omega⟩
  clear hx
  go_enter Tryd.func18, Tryd.ntmps18
  rcases d with d | ⟨d1, d2⟩
  all_goals
    go_wp2
    go_ret2
    exact ⟨rfl, rfl⟩
set_option maxHeartbeats 2000000 in
set_option maxRecDepth 100000 in
theorem rbranch_calls (ds : List (List UInt8)) (p : Option Addr) (cap : Nat) (x : Nat) (hx : x < ds.length) (hlen : ds.length ≤ 4096) (w : World) (hD : DL w p ds) :
    Calls Tryd.prog 18 #[.pointer none, .slice p ds.length cap, .int .i64 (x : Int)] w fun e w' => (∃ g c, e = .returned (.tuple #[.slice g 32 c, .int .i64 0]) ∧ 32 ≤ c ∧ DL w' g (pBranch ds x)) ∧ Below w.heap.size w w' := by
  have d1 : decide ((x : Int) < 0) = false := by simp
  have d2 : decide (ds.length ≤ x) = false := by simp; omega
  have d3 : decide ((4096 : Int) < (ds.length : Int)) = false := by simp; omega
  have cN := hide fun w => rnoughts_calls w
  have HS := hide (sideAt_length hD.1 x)
  have HD := hide hD
  have Hlen := hide hlen
  have Hx := hide hx
  clear hx hlen hD
  go_enter Tryd.func18, Tryd.ntmps18
  go_wp2_with fail
  refine (unhide cN _).mono ?_
  rintro e w2 ⟨⟨pz, cz, rfl, hcz, dZ⟩, b2⟩
  have HZ := hide dZ
  have B2 := hide b2
  have HDw := hide ((unhide HD).below b2 (Nat.le_refl _))
  clear dZ b2 cN HD
  go_wp2
  go_loopw [2, 9, 10] (fun a s i wr => ∃ k m : Nat, k ≤ 32 ∧ Hid (m = x / 2 ^ k) ∧ a = .int .i64 (m : Int) ∧ i = .int .i64 (k : Int) ∧ wr.ownsRow w2.heap.size 24 32 s k (Lib.byteCells ((List.range k).flatMap (sideAt ds x))) ∧ Below w2.heap.size w2 wr) (fun _ _ i _ => 32 - (intOf i).toNat)
  case atStart => exact ⟨0, x, by omega, (by simp : x = x / 2 ^ 0), rfl, rfl, World.ownsRow_nil _ _ _ _, Below.refl _ _⟩
  case round =>
    obtain ⟨k, m, hk, hm, rfl, rfl, hO, hb⟩ := hrel
    by_cases hlt : k < 32
    · have hd : decide ((k : Int) < 32) = true := by simp; omega
      have hmx : m ≤ x := by rw [unhide hm]; exact Nat.div_le_self _ _
      have hml : m ≤ 4096 := by have := unhide Hx; have := unhide Hlen; omega
      have hpk : 2 ^ k ≤ 4294967296 := Nat.le_trans (Nat.pow_le_pow_right (by decide) (by omega : k ≤ 32)) (by decide)
      obtain ⟨o, ho⟩ : ∃ o, (x / 2 ^ k) ^^^ 1 = o := ⟨_, rfl⟩
      have hox : o = if m % 2 = 1 then m - 1 else m + 1 := by rw [← ho, ← unhide hm, xor1]
      have hob : (o + 1) * 2 ^ k ≤ 70368744177664 := by
        have : o + 1 ≤ 4098 := by rw [hox]; split <;> omega
        exact Nat.le_trans (Nat.mul_le_mul this hpk) (by decide)
      have hob2 : o ≤ 4097 := by rw [hox]; split <;> omega
      have cn := hide fun W (h : DL W pz ((List.range 33).map pNought)) (h2 : DL W p ds) => rnode_calls ds (by have := unhide Hlen; omega) pz p cz cap k (by omega) o hob W h h2
      have est : st ds k o = sideAt ds x k := by unfold sideAt; rw [stand_st, ho]
      rw [est] at cn
      have hsl := unhide HS k
      have hfs := flat_snoc (sideAt ds x) k
      obtain ⟨D, hDD⟩ : ∃ D, sideAt ds x k = D := ⟨_, rfl⟩
      rw [hDD] at cn hsl hfs
      have ho1 := bc_oneCell D
      have hs0 : Hid ((bc D).size = 32) := by show _ = _; rw [bc_size, hsl]
      obtain ⟨m2, hm2, em2⟩ : ∃ m2 : Nat, Hid (m / 2 = m2) ∧ (m : Int) / 2 = (m2 : Int) := ⟨_, rfl, by omega⟩
      have et : (m : Int).tdiv 2 = (m2 : Int) := by rw [Int.tdiv_eq_ediv_of_nonneg (by omega)]; exact em2
      have er : (m : Int).tmod 2 = (m : Int) % 2 := Int.tmod_eq_emod_of_nonneg (by omega)
      have dW := hide ((unhide HDw).below hb (Nat.le_refl _))
      have dZ' := hide ((unhide HZ).below hb (Nat.le_refl _))
      have zr := hide hb.size
      have Hfs := hide hfs
      have HO := hide hO
      have HB := hide hb
      have hm' : Hid (m2 = x / 2 ^ (k + 1)) := by show _ = _; rw [← unhide hm2, unhide hm, Nat.div_div_eq_div_mul, ← Nat.pow_succ]
      clear hm hm2 ho hob est hsl hfs hDD hO hb hmx hpk
      by_cases hodd : m % 2 = 1
      case' pos =>
        have e1 : ((m : Int) % 2 == 1) = true := by simp; omega
        have hoo : (m : Int) - 1 = (o : Int) := by rw [hox, if_pos hodd]; omega
        clear hox hodd
        go_wp2_with fail
      case' neg =>
        have e1 : ((m : Int) % 2 == 1) = false := by simp; omega
        have hoo : (m : Int) + 1 = (o : Int) := by rw [hox, if_neg hodd]; omega
        clear hox hodd
        go_wp2_with fail
      all_goals
        refine (unhide cn _ (unhide dZ') (unhide dW)).mono ?_
        rintro e w4 ⟨rfl, hb4⟩
        have o4 := hide (owns_keep (unhide HO) (fun k _ hk => hb4.block k hk) (Nat.le_refl _))
        have b4 := hide ((unhide HB).trans (hb4.mono (unhide zr)))
        have z4 := hide ((unhide b4).size)
        clear hb4 HO HB dZ' dW cn
        go_wp2_with (first
          | (refine wpList_build_one rfl 39 24 (.tmp 42) rfl 32 32 (by decide) (by decide) (bc D) rfl (unhide hs0) Tryd.underlying39 digRowInfo' ?_)
          | (at_builtin; (refine wpList_append_one rfl 39 24 (.tmp 36) (.tmp 43) rfl 32 32 (by decide) (by decide) Tryd.underlying39 digRowInfo' w2.heap.size u9 k _ rfl w4 (unhide o4) (unhide z4) (bc D) (unhide hs0) ho1 rfl (by omega) ?_); intro v' w5 o5 b5 k5; have ho5 := hide o5; have hb5 := hide ((unhide b4).trans b5); clear o5 b5 k5))
        refine ⟨⟨k + 1, m2, by omega, unhide hm', rfl, by go_num, by rw [unhide Hfs]; exact unhide ho5, unhide hb5⟩, by simp [intOf]; omega⟩
    · have hkl : k = 32 := by omega
      subst hkl
      have hd : decide (((32 : Nat) : Int) < 32) = false := by decide
      obtain ⟨g, c, rfl, hc, hDw⟩ := DL_of_owns (sideAt ds x) (unhide HS) hO
      have HDf := hide hDw
      have HB := hide ((unhide B2).trans (hb.mono (unhide B2).size))
      clear hO hb hlt hDw HDw
      go_wp2
      go_ret2
      exact ⟨⟨g, c, rfl, hc, unhide HDf⟩, unhide HB⟩
end Go.Proofs.YtkioomojdahjlaaDoor

namespace Go.Proofs.YtkioomojdahjlaaDoor
open Go Go.RowKit
set_option linter.unusedSimpArgs false
set_option linter.unusedVariables false

set_option maxHeartbeats 1000000 in
set_option maxRecDepth 100000 in
theorem rinsert_many (c : Nat) (hc : c < 4294967296) (hm : 4096 ≤ c) (L leaf : List UInt8) (hL : L.length = 1024) (hl : leaf.length = 32) (w : World) :
    Calls Tryd.prog 8 #[.pointer none, .agg (tr c L), .agg (bc leaf)] w fun e w' => e = .returned (.tuple #[.agg (tr c L), .int .i64 6]) ∧ Below w.heap.size w w' := by
  have hiT := treeInfo c L hL
  have hil := digInfo leaf hl
  have hoT := tr_one c L
  have A3 := hide (al3 w (.cells (tr c L) 27) (.cells (bc leaf) 24) (.cells (tr 0 (List.replicate 1024 0)) 27))
  have B3 := hide (bel3 w (.cells (tr c L) 27) (.cells (bc leaf) 24) (.cells (tr 0 (List.replicate 1024 0)) 27))
  have c0 := (tr_cell (unhide A3).1).1
  have hz : (tr 0 (List.replicate 1024 0)).size = (tr c L).size := by rw [tr_size, tr_size, hL]; rfl
  have d : decide ((4096 : Int) ≤ (c : Int)) = true := by simp; omega
  rw [← zeroTree] at A3 B3 c0 hz
  go_enter Tryd.func8, Tryd.ntmps8
  go_wp2_with (first
    | refine wpList_load_row rfl 27 (.tmp 4) rfl w.heap.size rfl 27 _ (0, 0) _ (unhide A3).1 Tryd.underlying27 rfl hiT ?_
    | refine wpList_store_row rfl 27 (.tmp 6) (.tmp 12) rfl (w.heap.size + 1 + 1) _ rfl rfl 27 _ (unhide A3).2.2 hiT hz hoT ?_)
  exact bodyPost_ret (results_row_tmp rfl _ _ (w.heap.size + 1 + 1) _ _ _ _ rfl (setRow_heap _ _ _ _ _ _ (unhide A3).2.2) Tryd.underlying27 rfl hiT) rfl ⟨rfl, below_setRow (unhide B3) (by omega) _⟩
set_option maxHeartbeats 4000000 in
set_option maxRecDepth 100000 in
theorem rinsert_calls (c : Nat) (hm : c < 4096) (L leaf : List UInt8) (hL : L.length = 1024) (hl : leaf.length = 32) (w : World) :
    Calls Tryd.prog 8 #[.pointer none, .agg (tr c L), .agg (bc leaf)] w fun e w' => (∃ k, Low (c + 1) k ∧ k ≤ 12 ∧ e = .returned (.tuple #[.agg (tr (c + 1) (putAt L (k * 32) (pPart L leaf k))), .int .i64 0])) ∧ Below w.heap.size w w' := by
  have A3 := hide (al3 w (.cells (tr c L) 27) (.cells (bc leaf) 24) (.cells (tr 0 (List.replicate 1024 0)) 27))
  have B3 := hide (bel3 w (.cells (tr c L) 27) (.cells (bc leaf) 24) (.cells (tr 0 (List.replicate 1024 0)) 27))
  have c0 := (tr_cell (unhide A3).1).1
  have f0 := (tr_cell (unhide A3).1).2
  have d : decide ((4096 : Int) ≤ (c : Int)) = false := by simp; omega
  rw [← zeroTree] at A3 B3 c0 f0
  obtain ⟨X, hX⟩ : ∃ X, ((w.alloc (.cells (tr c L) 27)).alloc (.cells (bc leaf) 24)).alloc (.cells Tryd.zeroCells27 27) = X := ⟨_, rfl⟩
  have S3 : Hid (X.heap.size = w.heap.size + 1 + 1 + 1) := hide (by rw [← hX]; simp)
  rw [hX] at A3 B3 c0 f0
  obtain ⟨c1, hc1, HC1⟩ : ∃ c1 : Nat, ((c : Int) + 1) % 4294967296 = (c1 : Int) ∧ Hid (c1 = c + 1) := ⟨c + 1, by omega, rfl⟩
  have Hm := hide hm
  have HL := hide hL
  have HPl := hide (pPart_length L leaf hl)
  have cb := hide fun k (hk : k ≤ 40) w => rbit_calls c1 (by have := unhide HC1; omega) k hk w
  have HX := hide hX
  clear hm hX hL hl
  go_enter Tryd.func8, Tryd.ntmps8
  go_wp2_with (rw [unhide HX])
  obtain ⟨N, hN⟩ : ∃ N, w.heap.size = N := ⟨_, rfl⟩
  have HN := hide hN
  have Z0 : Hid ((X.setCell ⟨w.heap.size, 0, none⟩ (.int .u32 (c1 : Int))).heap[w.heap.size]? = some (.cells (tr c1 L) 27 (0, 0))) := hide (by
    rw [heap_setCell_same _ _ _ _ _ _ (unhide A3).1, tr_set])
  have Z1 : Hid ((X.setCell ⟨w.heap.size, 0, none⟩ (.int .u32 (c1 : Int))).heap[w.heap.size + 1]? = some (.cells (bc leaf) 24 (0, 0))) := hide (by
    rw [Below.heap_setCell _ _ _ _ (by simp)]; exact (unhide A3).2.1)
  have Z2 : Hid ((X.setCell ⟨w.heap.size, 0, none⟩ (.int .u32 (c1 : Int))).heap[w.heap.size + 1 + 1]? = some (.cells Tryd.zeroCells27 27 (0, 0))) := hide (by
    rw [Below.heap_setCell _ _ _ _ (by simp; omega)]; exact (unhide A3).2.2)
  have hZc : Hid (Below w.heap.size w (X.setCell ⟨w.heap.size, 0, none⟩ (.int .u32 (c1 : Int)))) := hide ((unhide B3).setCell (p := ⟨w.heap.size, 0, none⟩) (Nat.le_refl _) _)
  generalize X.setCell ⟨w.heap.size, 0, none⟩ (.int .u32 (c1 : Int)) = Z at *
  clear c0 f0 A3 B3 hc1 d S3 HX
  rw [hN] at Z0 Z1 Z2 hZc
  go_loopw [8] (fun i wr => ∃ k : Nat, k ≤ 12 ∧ i = .int .i64 (k : Int) ∧ (∀ j, j < k → c1 / 2 ^ j % 2 = 0) ∧ Below N w wr ∧ wr.heap[N]? = some (.cells (tr c1 L) 27 (0, 0)) ∧ wr.heap[N + 1 + 1]? = some (.cells Tryd.zeroCells27 27 (0, 0)) ∧ wr.heap[N + 1]? = some (.cells (bc (pPart L leaf k)) 24 (0, 0))) (fun i _ => 32 - (intOf i).toNat)
  case atStart =>
    exact ⟨0, by omega, rfl, fun j hj => by omega, unhide hZc, unhide Z0, unhide Z2, unhide Z1⟩
  case round =>
    obtain ⟨k, hk, rfl, hlow, hb, q0, q2, q3⟩ := hrel
    clear Z0 Z1 Z2 hZc Z
    rw [hN]
    obtain ⟨c0, f0⟩ := tr_cell q0
    have hPl := unhide HPl k
    have hiP := digInfo _ hPl
    have cbk := unhide cb k (by omega) wr
    have hz : N + 1 + 1 < wr.heap.size := (Array.getElem?_eq_some_iff.1 q2).1
    have b2 : (0 : Int) ≤ k ∧ (k : Int) < 32 := by omega
    by_cases hbit : c1 / 2 ^ k % 2 = 1
    · have hle : k * 32 + (pPart L leaf k).length ≤ L.length := by rw [hPl, unhide HL]; omega
      have hT2 : (putAt L (k * 32) (pPart L leaf k)).length = 1024 := by rw [putAt_length _ _ _ hle]; exact unhide HL
      have hiT := treeInfo c1 _ hT2
      have hoT := tr_one c1 (putAt L (k * 32) (pPart L leaf k))
      have hzT : (Tryd.zeroCells27).size = (tr c1 (putAt L (k * 32) (pPart L leaf k))).size := by rw [zeroTree, tr_size, tr_size, hT2]; rfl
      have Hres : Hid (Low (c + 1) k) := hide (by rw [← unhide HC1]; exact ⟨hbit, hlow⟩)
      have hcc := unhide HC1
      have HPE := hide (show tr (c + 1) (putAt L (k * 32) (pPart L leaf k)) = tr c1 (putAt L (k * 32) (pPart L leaf k)) by rw [hcc])
      rw [decide_eq_true hbit] at cbk
      have CB := hide cbk
      have Q0 := hide q0
      have Q2 := hide q2
      have Q3 := hide q3
      have HB := hide hb
      have Hk := hide hk
      have HLe := hide hle
      clear q0 q2 q3 hb hz hlow hbit hcc hk hle cbk
      go_wp2_with fail
      refine (unhide CB).mono ?_
      rintro e w9 ⟨rfl, hw9⟩
      rw [hw9]
      clear hw9 CB
      go_wp2_with (first
        | refine wpList_load_row rfl 24 (.tmp 5) rfl (N + 1) rfl 24 _ (0, 0) _ (unhide Q3) Tryd.underlying24 rfl hiP ?_
        | (refine wpList_store_tr rfl 24 (.tmp 34) (.tmp 32) rfl N (k * 32) c1 L (pPart L leaf k) 27 (by first | rfl | (simp; done)) rfl (unhide Q0) (unhide HLe) hiP ?_
           intro w3 r1 r2 r3 r4
           have S0 := hide r1
           have S2 := hide ((r2 (N + 1 + 1) (by omega)).trans (unhide Q2))
           have B3 := hide ((unhide HB).trans (r4 N (Nat.le_refl _)))
           clear r1 r2 r3 r4)
        | refine wpList_load_row rfl 27 (.tmp 4) rfl N rfl 27 _ (0, 0) _ (unhide S0) Tryd.underlying27 rfl hiT ?_
        | refine wpList_store_row rfl 27 (.tmp 6) (.tmp 35) rfl (N + 1 + 1) _ rfl rfl 27 _ (unhide S2) hiT hzT hoT ?_)
      refine bodyPost_ret (results_row_tmp rfl _ _ (N + 1 + 1) _ _ _ _ rfl (setRow_heap _ _ _ _ _ _ (unhide S2)) Tryd.underlying27 rfl hiT) rfl ⟨⟨k, unhide Hres, unhide Hk, ?_⟩, by rw [unhide HN]; exact below_setRow (unhide B3) (by omega) _⟩
      rw [unhide HPE]; rfl
    · have hlow' : ∀ j, j < k + 1 → c1 / 2 ^ j % 2 = 0 := fun j hj => by
        by_cases e : j = k
        · subst e; omega
        · exact hlow j (by omega)
      have hk12 : k + 1 ≤ 12 := low_le c1 (k + 1) (by have := unhide HC1; omega) (by have := unhide HC1; have := unhide Hm; omega) hlow'
      have hChl := chk_length L (unhide HL) k (by omega)
      have hr := tr_range q0 k
      have hP1 := unhide HPl (k + 1)
      have hi1 := digInfo _ hP1
      have ho1 := bc_oneCell (pPart L leaf (k + 1))
      have hz1 : (bc (pPart L leaf k)).size = (bc (pPart L leaf (k + 1))).size := by rw [bc_size, bc_size, hPl, hP1]
      have kN : Hid (∀ dd os, Calls Tryd.prog 26 #[.pointer none, .int .u8 6, .agg (bc (chk L k)), .agg (bc (pPart L leaf k))] (Sort.grow (redrawn wr dd) os) fun e w'' => e = .returned (.agg (bc (pPart L leaf (k + 1)))) ∧ ∃ p : Regrown, w'' = Sort.grow (redrawn wr p.d) p.os) := fun dd os =>
        Calls.regrown_of (rnode2_calls (chk L k) (pPart L leaf k) hChl hPl _)
      have RM : Hid (∀ w', (∃ p : Regrown, w' = Sort.grow (redrawn wr p.d) p.os) → w'.rangeAt N (1 + k * 32) (Lib.byteCells (chk L k))) := fun w' ⟨p, hp⟩ => by
        rw [hp]; exact rangeAt_below hr (below_regrown wr p.d p.os) (by omega)
      have R3 : Hid (∀ w', (∃ p : Regrown, w' = Sort.grow (redrawn wr p.d) p.os) → w'.heap[N + 1]? = some (.cells (bc (pPart L leaf k)) 24 (0, 0))) := fun w' ⟨p, hp⟩ => by
        rw [hp]; exact Below.at (below_regrown wr p.d p.os) (by omega) q3
      rw [decide_eq_false hbit] at cbk
      have CB := hide cbk
      have HCl := hide hChl
      have Hlow := hide hlow'
      have Hk12 := hide hk12
      have Q0 := hide q0
      have Q2 := hide q2
      have Q3 := hide q3
      have HB := hide hb
      have Hz := hide hz
      obtain ⟨P1, hP1e⟩ : ∃ P, pPart L leaf k = P := ⟨_, rfl⟩
      obtain ⟨P2, hP2e⟩ : ∃ P, pPart L leaf (k + 1) = P := ⟨_, rfl⟩
      obtain ⟨CH, hCH⟩ : ∃ P, chk L k = P := ⟨_, rfl⟩
      rw [hP1e] at kN R3 Q3 hiP hz1
      rw [hP2e] at kN hi1 ho1 hz1
      rw [hCH] at kN RM HCl
      have HP2 := hide hP2e
      clear q0 q2 q3 hb hz hlow hlow' hbit hk hk12 hr hChl hP1 hPl hP1e hP2e hCH cbk
      go_wp2_with fail
      refine (unhide CB).mono ?_
      rintro e w9 ⟨rfl, hw9⟩
      rw [hw9]
      clear hw9 CB
      go_wp2_with fail
      refine wp_region_below_tail 7 mixed (by kernel_rfl) ?_
      simp only [List.take_succ_cons, List.take_zero, List.drop_succ_cons, List.drop_zero]
      quiet_step (fail)
      quiet_step (fail)
      quiet_step (fail)
      quiet_step (fail)
      refine wpQuiet_load_mid rfl 24 (.tmp 25) (by first | rfl | (simp; done)) N (1 + k * 32) (by first | rfl | (simp; done)) (Lib.byteCells CH) _ (unhide RM) Tryd.underlying24 rfl (by rw [Lib.byteCells_length, unhide HCl]; kernel_rfl) ?_
      refine wpQuiet_load_row rfl 24 (.tmp 5) rfl (N + 1) rfl 24 _ (0, 0) _ (unhide R3) Tryd.underlying24 rfl hiP ?_
      quiet_step (exact unhide kN _ _)
      refine wpQuiet_nil ?_
      intro w2 hb2
      have p0 := hide (Below.at hb2 (by have := unhide Hz; omega) (unhide Q0))
      have p2 := hide (Below.at hb2 (by have := unhide Hz; omega) (unhide Q2))
      have p3 := hide (Below.at hb2 (by have := unhide Hz; omega) (unhide Q3))
      have bb := hide ((unhide HB).trans (hb2.mono (by have := unhide Hz; omega)))
      clear hb2
      refine wpList_store_row rfl 24 (.tmp 5) (.tmp 28) rfl (N + 1) _ rfl rfl 24 _ (unhide p3) hi1 hz1 ho1 ?_
      go_wp2
      refine ⟨⟨k + 1, unhide Hk12, by go_num, unhide Hlow, below_setRow (unhide bb) (by omega) _, ?_, ?_, ?_⟩, by have := unhide Hk12; simp [intOf]; omega⟩
      · rw [setRow_other _ _ _ _ (by omega)]; exact unhide p0
      · rw [setRow_other _ _ _ _ (by omega)]; exact unhide p2
      · rw [unhide HP2]; exact setRow_heap _ _ _ _ _ _ (unhide p3)
end Go.Proofs.YtkioomojdahjlaaDoor

namespace Go.Proofs.YtkioomojdahjlaaDoor
open Go Go.RowKit
set_option linter.unusedSimpArgs false
set_option linter.unusedVariables false

set_option maxHeartbeats 4000000 in
set_option maxRecDepth 100000 in
theorem keep_calls (ds : List (List UInt8)) (p : Option Addr) (cap : Nat) (hcap : ds.length ≤ cap) (hlen : ds.length ≤ 100000000) (w : World) (hD : DL w p ds) (tabs : Tabs w) :
    Calls Tryd.prog 15 #[.pointer none, .slice p ds.length cap] w fun e w' => (∃ L, KeptBy (ds.take 4096) L ∧ e = .returned (.agg (tr (ds.take 4096).length L))) ∧ Below w.heap.size w w' := by
  have cf := fun w => mfirst_calls p ds.length cap hcap (by omega) w
  have htk : min ds.length 4096 = (ds.take 4096).length := by simp; omega
  rw [htk] at cf
  have hlen' : (ds.take 4096).length ≤ 4096 := by simp; omega
  have hD' := hD.take 4096
  generalize ds.take 4096 = es at *
  have A2 := al2 w (.cells (tr 0 (List.replicate 1024 0)) 27) (.cells (tr 0 (List.replicate 1024 0)) 27)
  have B2 := bel2 w (.cells (tr 0 (List.replicate 1024 0)) 27) (.cells (tr 0 (List.replicate 1024 0)) 27)
  rw [← zeroTree] at A2 B2
  obtain ⟨X, hX⟩ : ∃ X, (w.alloc (.cells Tryd.zeroCells27 27)).alloc (.cells Tryd.zeroCells27 27) = X := ⟨_, rfl⟩
  rw [hX, zeroTree] at A2
  rw [hX] at B2
  have AX := hide A2
  have BX := hide B2
  have HD := hide hD'
  have HT := hide tabs
  have Hlen := hide hlen'
  have CF := hide cf
  clear hD hD' tabs hlen hcap cf hlen' htk A2 B2
  go_enter Tryd.func15, Tryd.ntmps15
  go_wp2_with (rw [hX])
  refine (unhide CF _).mono ?_
  rintro e w1 ⟨rfl, hw1⟩
  subst hw1
  go_wp2
  obtain ⟨N, hN⟩ : ∃ N, w.heap.size = N := ⟨_, rfl⟩
  have HN := hide hN
  clear hX
  go_loopw [11] (fun i wr => ∃ k : Nat, k ≤ es.length ∧ i = .int .i64 (k : Int) ∧ Below N w wr ∧ wr.heap[N]? = some (.cells (tr 0 (List.replicate 1024 0)) 27 (0, 0)) ∧ ∃ L, KeptBy (es.take k) L ∧ wr.heap[N + 1]? = some (.cells (tr k L) 27 (0, 0))) (fun i _ => es.length - (intOf i).toNat)
  case atStart =>
    subst hN
    exact ⟨0, by omega, rfl, unhide BX, (unhide AX).1, _, by rw [List.take_zero]; exact .nil, (unhide AX).2⟩
  case round =>
    obtain ⟨k, hk, rfl, hb, q0, L, hkept, q1⟩ := hrel
    rw [hN]
    clear AX BX
    by_cases hlt : k < es.length
    · have hd : decide (k < es.length) = true := by simpa using hlt
      have hD0 := unhide HD
      obtain ⟨b, off, rfl, hlt2, hc⟩ := hD0.2 (by intro h; rw [h] at hlt; simp at hlt)
      have hr := rangeAt_below (hc _ hlt) hb (by rw [← hN]; exact hlt2)
      have hEl := hD0.len _ hlt
      have htake : es.take (k + 1) = es.take k ++ [es.getD k []] := by rw [List.take_add_one]; simp [List.getD, hlt]
      have htl : (es.take k).length = k := by simp; omega
      obtain ⟨E, hE⟩ : ∃ E, es.getD k [] = E := ⟨_, rfl⟩
      rw [hE] at hr hEl htake
      have hz : N + 1 < wr.heap.size := (Array.getElem?_eq_some_iff.1 q1).1
      have hiT := treeInfo k L hkept.kept.len
      have hiE := digInfo E hEl
      have hzE := zeroSize E hEl
      have CI := hide (fun W tb => insert_calls k (by have := unhide Hlen; omega) L E hkept.kept.len hEl W tb)
      have HK := hide hkept
      have HTk := hide htake
      have HTl := hide htl
      have HEl := hide hEl
      have HR := hide hr
      have Q0 := hide q0
      have Q1 := hide q1
      have HB := hide hb
      have Hk := hide hlt
      have Hz := hide hz
      have b1 : (0 : Int) ≤ k ∧ (k : Int) < es.length := by omega
      have b3 : k ≤ 4096 := by have := unhide Hlen; omega
      clear q0 q1 hb hlt hz hr hEl htake htl hE hc hlt2 hD0 hkept hk
      go_wp2_with (first
        | refine wpList_load_mid rfl 24 (.tmp 13) rfl b (off + k * 32) rfl (Lib.byteCells E) _ (unhide HR) Tryd.underlying24 rfl (by rw [Lib.byteCells_length, unhide HEl]; kernel_rfl) ?_
        | (refine wpList_store_new rfl 24 (.tmp 7) (.tmp 14) rfl wr _ _ E rfl rfl hiE hzE ?_
           intro W2 q2 hb2 z2
           have S2 := hide q2
           have S1 := hide (Below.at hb2 (unhide Hz) (unhide Q1))
           have S0 := hide (Below.at hb2 (by have := unhide Hz; omega) (unhide Q0))
           have BW := hide ((unhide HB).trans (hb2.mono (by have := unhide Hz; omega)))
           have ZW := hide z2
           clear q2 hb2 z2)
        | refine wpList_load_row rfl 27 (.tmp 5) rfl (N + 1) rfl 27 _ (0, 0) _ (unhide S1) Tryd.underlying27 rfl hiT ?_
        | refine wpList_load_row rfl 24 (.tmp 7) rfl wr.heap.size rfl 24 _ (0, 0) _ (unhide S2) Tryd.underlying24 rfl hiE ?_)
      refine (unhide CI _ ((unhide HT).below (unhide BW) (by rw [unhide HN]; exact Nat.le_refl _))).mono ?_
      rintro e w3 ⟨⟨l, hlow, hl12, rfl⟩, hb3⟩
      have p0 := hide (Below.at hb3 (by have := unhide Hz; have := unhide ZW; omega) (unhide S0))
      have p1 := hide (Below.at hb3 (by have := unhide Hz; have := unhide ZW; omega) (unhide S1))
      have BB := hide ((unhide BW).trans (hb3.mono (by have := unhide Hz; have := unhide ZW; omega)))
      have hK2 : KeptBy (es.take (k + 1)) (putAt L (l * 32) (pPart L E l)) := by
        rw [unhide HTk]
        exact .snoc _ _ _ _ (unhide HK) (unhide HEl) (by rw [unhide HTl]; exact hlow) hl12
      obtain ⟨L2, hL2⟩ : ∃ L2, putAt L (l * 32) (pPart L E l) = L2 := ⟨_, rfl⟩
      rw [hL2] at hK2 ⊢
      have hi2 := treeInfo (k + 1) L2 hK2.kept.len
      have ho2 := tr_one (k + 1) L2
      have hz2 : (tr k L).size = (tr (k + 1) L2).size := by rw [tr_size, tr_size, hK2.kept.len, (unhide HK).kept.len]
      have HK2 := hide hK2
      clear hK2 hL2 hlow hl12 hb3
      go_wp2_with (refine wpList_store_row rfl 27 (.tmp 5) (.tmp 20) rfl (N + 1) _ rfl rfl 27 _ (unhide p1) hi2 hz2 ho2 ?_)
      refine ⟨⟨k + 1, by have := unhide Hk; omega, by go_num, below_setRow (unhide BB) (by omega) _, ?_, L2, unhide HK2, setRow_heap _ _ _ _ _ _ (unhide p1)⟩, by have := unhide Hk; simp [intOf]; omega⟩
      rw [setRow_other _ _ _ _ (by omega)]; exact unhide p0
    · have hd : decide (k < es.length) = false := by simpa using hlt
      have hkl : k = es.length := by omega
      rw [hkl] at q1 hkept
      rw [List.take_length] at hkept
      have hiT := treeInfo es.length L hkept.kept.len
      have hoT := tr_one es.length L
      have hzT : (tr 0 (List.replicate 1024 0)).size = (tr es.length L).size := by rw [tr_size, tr_size, hkept.kept.len]; rfl
      have HK := hide hkept
      have Q0 := hide q0
      have Q1 := hide q1
      have HB := hide hb
      clear q0 q1 hb hkl hlt hkept
      go_wp2_with (first
        | refine wpList_load_row rfl 27 (.tmp 5) rfl (N + 1) rfl 27 _ (0, 0) _ (unhide Q1) Tryd.underlying27 rfl hiT ?_
        | refine wpList_store_row rfl 27 (.tmp 4) (.tmp 23) rfl N _ rfl rfl 27 _ (unhide Q0) hiT hzT hoT ?_)
      exact bodyPost_ret (results_cell_row rfl _ _ N _ _ _ _ rfl (setRow_heap _ _ _ _ _ _ (unhide Q0)) Tryd.underlying27 rfl hiT) rfl ⟨⟨L, unhide HK, rfl⟩, by rw [unhide HN]; exact below_setRow (unhide HB) (Nat.le_refl _) _⟩
end Go.Proofs.YtkioomojdahjlaaDoor

namespace Go.Proofs.YtkioomojdahjlaaDoor
open Go Go.RowKit
set_option linter.unusedSimpArgs false
set_option linter.unusedVariables false

set_option maxHeartbeats 4000000 in
set_option maxRecDepth 100000 in
theorem rkeep_calls (ds : List (List UInt8)) (p : Option Addr) (cap : Nat) (hcap : ds.length ≤ cap) (hlen : ds.length ≤ 100000000) (w : World) (hD : DL w p ds) :
    Calls Tryd.prog 16 #[.pointer none, .slice p ds.length cap] w fun e w' => (∃ L, KeptBy (ds.take 4096) L ∧ e = .returned (.agg (tr (ds.take 4096).length L))) ∧ Below w.heap.size w w' := by
  have cf := fun w => rfirst_calls p ds.length cap hcap (by omega) w
  have htk : min ds.length 4096 = (ds.take 4096).length := by simp; omega
  rw [htk] at cf
  have hlen' : (ds.take 4096).length ≤ 4096 := by simp; omega
  have hD' := hD.take 4096
  generalize ds.take 4096 = es at *
  have A2 := al2 w (.cells (tr 0 (List.replicate 1024 0)) 27) (.cells (tr 0 (List.replicate 1024 0)) 27)
  have B2 := bel2 w (.cells (tr 0 (List.replicate 1024 0)) 27) (.cells (tr 0 (List.replicate 1024 0)) 27)
  rw [← zeroTree] at A2 B2
  obtain ⟨X, hX⟩ : ∃ X, (w.alloc (.cells Tryd.zeroCells27 27)).alloc (.cells Tryd.zeroCells27 27) = X := ⟨_, rfl⟩
  rw [hX, zeroTree] at A2
  rw [hX] at B2
  have AX := hide A2
  have BX := hide B2
  have HD := hide hD'
  have Hlen := hide hlen'
  have CF := hide cf
  clear hD hD' hlen hcap cf hlen' htk A2 B2
  go_enter Tryd.func16, Tryd.ntmps16
  go_wp2_with (rw [hX])
  refine (unhide CF _).mono ?_
  rintro e w1 ⟨rfl, hw1⟩
  subst hw1
  go_wp2
  obtain ⟨N, hN⟩ : ∃ N, w.heap.size = N := ⟨_, rfl⟩
  have HN := hide hN
  clear hX
  go_loopw [11] (fun i wr => ∃ k : Nat, k ≤ es.length ∧ i = .int .i64 (k : Int) ∧ Below N w wr ∧ wr.heap[N]? = some (.cells (tr 0 (List.replicate 1024 0)) 27 (0, 0)) ∧ ∃ L, KeptBy (es.take k) L ∧ wr.heap[N + 1]? = some (.cells (tr k L) 27 (0, 0))) (fun i _ => es.length - (intOf i).toNat)
  case atStart =>
    subst hN
    exact ⟨0, by omega, rfl, unhide BX, (unhide AX).1, _, by rw [List.take_zero]; exact .nil, (unhide AX).2⟩
  case round =>
    obtain ⟨k, hk, rfl, hb, q0, L, hkept, q1⟩ := hrel
    rw [hN]
    clear AX BX
    by_cases hlt : k < es.length
    · have hd : decide (k < es.length) = true := by simpa using hlt
      have hD0 := unhide HD
      obtain ⟨b, off, rfl, hlt2, hc⟩ := hD0.2 (by intro h; rw [h] at hlt; simp at hlt)
      have hr := rangeAt_below (hc _ hlt) hb (by rw [← hN]; exact hlt2)
      have hEl := hD0.len _ hlt
      have htake : es.take (k + 1) = es.take k ++ [es.getD k []] := by rw [List.take_add_one]; simp [List.getD, hlt]
      have htl : (es.take k).length = k := by simp; omega
      obtain ⟨E, hE⟩ : ∃ E, es.getD k [] = E := ⟨_, rfl⟩
      rw [hE] at hr hEl htake
      have hz : N + 1 < wr.heap.size := (Array.getElem?_eq_some_iff.1 q1).1
      have hiT := treeInfo k L hkept.kept.len
      have hiE := digInfo E hEl
      have hzE := zeroSize E hEl
      have CI := hide (fun W => rinsert_calls k (by have := unhide Hlen; omega) L E hkept.kept.len hEl W)
      have HK := hide hkept
      have HTk := hide htake
      have HTl := hide htl
      have HEl := hide hEl
      have HR := hide hr
      have Q0 := hide q0
      have Q1 := hide q1
      have HB := hide hb
      have Hk := hide hlt
      have Hz := hide hz
      have b1 : (0 : Int) ≤ k ∧ (k : Int) < es.length := by omega
      have b3 : k ≤ 4096 := by have := unhide Hlen; omega
      clear q0 q1 hb hlt hz hr hEl htake htl hE hc hlt2 hD0 hkept hk
      go_wp2_with (first
        | refine wpList_load_mid rfl 24 (.tmp 13) rfl b (off + k * 32) rfl (Lib.byteCells E) _ (unhide HR) Tryd.underlying24 rfl (by rw [Lib.byteCells_length, unhide HEl]; kernel_rfl) ?_
        | (refine wpList_store_new rfl 24 (.tmp 7) (.tmp 14) rfl wr _ _ E rfl rfl hiE hzE ?_
           intro W2 q2 hb2 z2
           have S2 := hide q2
           have S1 := hide (Below.at hb2 (unhide Hz) (unhide Q1))
           have S0 := hide (Below.at hb2 (by have := unhide Hz; omega) (unhide Q0))
           have BW := hide ((unhide HB).trans (hb2.mono (by have := unhide Hz; omega)))
           have ZW := hide z2
           clear q2 hb2 z2)
        | refine wpList_load_row rfl 27 (.tmp 5) rfl (N + 1) rfl 27 _ (0, 0) _ (unhide S1) Tryd.underlying27 rfl hiT ?_
        | refine wpList_load_row rfl 24 (.tmp 7) rfl wr.heap.size rfl 24 _ (0, 0) _ (unhide S2) Tryd.underlying24 rfl hiE ?_)
      refine (unhide CI _).mono ?_
      rintro e w3 ⟨⟨l, hlow, hl12, rfl⟩, hb3⟩
      have p0 := hide (Below.at hb3 (by have := unhide Hz; have := unhide ZW; omega) (unhide S0))
      have p1 := hide (Below.at hb3 (by have := unhide Hz; have := unhide ZW; omega) (unhide S1))
      have BB := hide ((unhide BW).trans (hb3.mono (by have := unhide Hz; have := unhide ZW; omega)))
      have hK2 : KeptBy (es.take (k + 1)) (putAt L (l * 32) (pPart L E l)) := by
        rw [unhide HTk]
        exact .snoc _ _ _ _ (unhide HK) (unhide HEl) (by rw [unhide HTl]; exact hlow) hl12
      obtain ⟨L2, hL2⟩ : ∃ L2, putAt L (l * 32) (pPart L E l) = L2 := ⟨_, rfl⟩
      rw [hL2] at hK2 ⊢
      have hi2 := treeInfo (k + 1) L2 hK2.kept.len
      have ho2 := tr_one (k + 1) L2
      have hz2 : (tr k L).size = (tr (k + 1) L2).size := by rw [tr_size, tr_size, hK2.kept.len, (unhide HK).kept.len]
      have HK2 := hide hK2
      clear hK2 hL2 hlow hl12 hb3
      go_wp2_with (refine wpList_store_row rfl 27 (.tmp 5) (.tmp 20) rfl (N + 1) _ rfl rfl 27 _ (unhide p1) hi2 hz2 ho2 ?_)
      refine ⟨⟨k + 1, by have := unhide Hk; omega, by go_num, below_setRow (unhide BB) (by omega) _, ?_, L2, unhide HK2, setRow_heap _ _ _ _ _ _ (unhide p1)⟩, by have := unhide Hk; simp [intOf]; omega⟩
      rw [setRow_other _ _ _ _ (by omega)]; exact unhide p0
    · have hd : decide (k < es.length) = false := by simpa using hlt
      have hkl : k = es.length := by omega
      rw [hkl] at q1 hkept
      rw [List.take_length] at hkept
      have hiT := treeInfo es.length L hkept.kept.len
      have hoT := tr_one es.length L
      have hzT : (tr 0 (List.replicate 1024 0)).size = (tr es.length L).size := by rw [tr_size, tr_size, hkept.kept.len]; rfl
      have HK := hide hkept
      have Q0 := hide q0
      have Q1 := hide q1
      have HB := hide hb
      clear q0 q1 hb hkl hlt hkept
      go_wp2_with (first
        | refine wpList_load_row rfl 27 (.tmp 5) rfl (N + 1) rfl 27 _ (0, 0) _ (unhide Q1) Tryd.underlying27 rfl hiT ?_
        | refine wpList_store_row rfl 27 (.tmp 4) (.tmp 23) rfl N _ rfl rfl 27 _ (unhide Q0) hiT hzT hoT ?_)
      exact bodyPost_ret (results_cell_row rfl _ _ N _ _ _ _ rfl (setRow_heap _ _ _ _ _ _ (unhide Q0)) Tryd.underlying27 rfl hiT) rfl ⟨⟨L, unhide HK, rfl⟩, by rw [unhide HN]; exact below_setRow (unhide HB) (Nat.le_refl _) _⟩
end Go.Proofs.YtkioomojdahjlaaDoor

namespace Go.Proofs.YtkioomojdahjlaaDoor
open Go Go.RowKit
set_option linter.unusedSimpArgs false
set_option linter.unusedVariables false

theorem run_append_zeros {P : Program} (w : World) (t tn ty e : TypeId) (i : TypeInfo) (z : Value) (k kn : IntKind) (ht : P.underlying t = some (.slice e)) (htn : P.underlying tn = some (.int kn)) (hi : P.info? e = some i) (hz : i.zero = some z)
    (p : Option Addr) (n m : Nat) (old : Array Value) (hf : (Builtin.firstCells i.size n (.slice p n n)).run P w.drew = .ok old w.drew) (hm : 0 < m) (hs : 0 < i.size) (h63 : ((n + m : Nat) : Int) ≤ 9223372036854775807) (h48 : Builtin.nextslicecap (n + m) n * i.bytes ≤ 281474976710656) (h48m : m * i.bytes ≤ 281474976710656) :
    (Builtin.append_ #[t, tn] ty #[.slice p n n, .int k m]).run P w =
      .ok (.slice (some ⟨w.heap.size, 0, none⟩) (n + m) (grownCap w (n + m) n e)) (w.drew.alloc (.cells (old ++ Builtin.zeroCells z.cells m ++ Builtin.zeroCells z.cells (grownCap w (n + m) n e - (n + m))) e)) := by
  have hn : m ≠ 0 := by omega
  have hw : IntKind.i64.wrap (m : Int) = m := by rw [IntKind.wrap_i64]; omega
  have h63' : ¬ (9223372036854775807 < (n : Int) + (m : Int)) := by omega
  have h48' : ¬ (281474976710656 < Builtin.nextslicecap (n + m) n * i.bytes) := by omega
  have h48i : ¬ (281474976710656 < (m : Int) * (i.bytes : Int)) := by
    rw [← Int.natCast_mul]
    omega
  have hneg : ¬ ((m : Int) < 0) := by omega
  have hns : ¬ (m * i.size = 0) := Nat.mul_ne_zero hn (by omega)
  have hnn : ¬ (n + m ≤ n) := by omega
  simp [Builtin.append_, run_underlying ht, run_underlying htn, sizeOf, typeInfo, zeroValue, hi, hz, asInt, asIntOf, hw, hn, hneg, hns, h63', h48', h48i, hnn, Question.forced, hf, newRow, grownCap]
theorem zero_cells (m : Nat) : Builtin.zeroCells (bc (List.replicate 32 0)) m = bc (List.replicate (32 * m) 0) := by
  apply Array.ext
  · simp [Builtin.zeroCells]; omega
  · intro j h1 h2
    have hz : ∀ r, r < 32 → (bc (List.replicate 32 0))[r]! = Value.int .u8 0 := fun r hr => by
      have hb := bc_at (List.replicate 32 0) r (by simpa using hr)
      rw [getElem!_def, hb, repl_getD 32 r hr]; rfl
    have h2' : j < 32 * m := by simpa using h2
    have hb2 := bc_at (List.replicate (32 * m) 0) j (by simpa using h2')
    have e2 : (bc (List.replicate (32 * m) 0))[j] = Value.int .u8 0 := by
      rw [Array.getElem?_eq_getElem h2] at hb2
      rw [Option.some.inj hb2, repl_getD (32 * m) j h2']; rfl
    rw [e2]
    simp only [Builtin.zeroCells, Array.getElem_map, Array.getElem_range]
    exact hz _ (by rw [bc_size, List.length_replicate]; omega)
/-- The list, with noughts behind it. -/
def padDs (ds : List (List UInt8)) (k : Nat) : List (List UInt8) := (List.range k).map fun j => pStand ds j (pNought 0)
theorem padDs_length (ds : List (List UInt8)) (k : Nat) : (padDs ds k).length = k := by simp [padDs]
theorem range_self (ds : List (List UInt8)) : ds = (List.range ds.length).map fun j => pStand ds j (pNought 0) := by
  apply List.ext_getElem
  · simp
  · intro j h1 h2
    simp [pStand, h1]
theorem zeros_flat (a m : Nat) (f : Nat → List UInt8) (hf : ∀ j, a ≤ j → f j = List.replicate 32 0) : (List.range (a + m)).flatMap f = (List.range a).flatMap f ++ List.replicate (32 * m) 0 := by
  induction m with
  | zero => simp
  | succ m ih =>
    rw [← Nat.add_assoc, List.range_succ, List.flatMap_append, ih]
    rw [List.flatMap_cons, List.flatMap_nil, List.append_nil, hf (a + m) (by omega), List.append_assoc, List.replicate_append_replicate, show 32 * (m + 1) = 32 * m + 32 by omega]
theorem DL_of_take {w : World} {g : Nat} {t : TypeId} {B : Array Value} (f : Nat → List UInt8) (hf : ∀ j, (f j).length = 32) (n : Nat) (hg : w.heap[g]? = some (.cells B t (0, 0))) (ht : B.toList.take (n * 32) = Lib.byteCells ((List.range n).flatMap f)) : DL w (some ⟨g, 0, none⟩) ((List.range n).map f) := by
  refine ⟨fun d hd => ?_, fun hn => ⟨g, 0, rfl, (Array.getElem?_eq_some_iff.1 hg).1, fun i hi => ?_⟩⟩
  · obtain ⟨j, _, rfl⟩ := List.mem_map.1 hd; exact hf j
  · have hi' : i < n := by simpa using hi
    intro j v hv
    rw [cell_of_row _ _ _ _ _ _ hg]
    have hj : j < 32 := by
      have := (List.getElem?_eq_some_iff.1 hv).1
      rw [Lib.byteCells_length] at this
      simpa [hi', hf] using this
    have e1 : B[0 + i * 32 + j]? = (B.toList.take (n * 32))[i * 32 + j]? := by
      rw [List.getElem?_take, if_pos (by omega), Array.getElem?_toList, Nat.zero_add]
    rw [e1, ht]
    have e2 := flat_at32 f hf n i hi'
    have e3 : ((List.range n).map f).getD i [] = f i := by simp [hi']
    rw [e3, ← e2] at hv
    rw [← hv]
    unfold Lib.byteCells
    rw [List.getElem?_map, List.getElem?_map, List.getElem?_take, if_pos hj, List.getElem?_drop]
set_option maxRecDepth 100000 in
theorem append_pad (ds : List (List UInt8)) (p : Option Addr) (m : Nat) (hm : 0 < m) (hn : ds.length + m ≤ 1000000) (w : World) (hD : DL w p ds) (ty : TypeId) :
    ∃ g c w', (Builtin.append_ #[39, 3] ty #[.slice p ds.length ds.length, .int .i64 (m : Int)]).run Tryd.prog w = .ok (.slice (some ⟨g, 0, none⟩) (ds.length + m) c) w' ∧ ds.length + m ≤ c ∧ DL w' (some ⟨g, 0, none⟩) (padDs ds (ds.length + m)) ∧ Below w.heap.size w w' := by
  obtain ⟨i, hi⟩ : ∃ i, Tryd.prog.info? 24 = some i := by
    cases hq : Tryd.prog.info? 24 with
    | none => exact absurd hq (by rw [show Tryd.prog.info? 24 = some ((Tryd.prog.info? 24).getD default) by kernel_rfl]; simp)
    | some i => exact ⟨i, rfl⟩
  have e : (Tryd.prog.info? 24).map (fun i => (i.zero, i.size, i.bytes)) = some (some (.agg (bc (List.replicate 32 0))), 32, 32) := by kernel_rfl
  rw [hi] at e
  simp only [Option.map_some, Option.some.injEq, Prod.mk.injEq] at e
  obtain ⟨e1, e2, e3⟩ := e
  have hfl : ∀ j, (pStand ds j (pNought 0)).length = 32 := fun j => pStand_length hD.1 j _ (pNought_length 0)
  have hf : (Builtin.firstCells i.size ds.length (.slice p ds.length ds.length)).run Tryd.prog w.drew = .ok (bc ((List.range ds.length).flatMap fun j => pStand ds j (pNought 0))) w.drew := by
    rw [e2]
    have hds := hD.2
    cases p with
    | none =>
      have : ds = [] := by
        apply Classical.byContradiction
        intro h
        obtain ⟨b, off, hh, _⟩ := hds h
        cases hh
      subst this
      simp [Builtin.firstCells, bc, Lib.byteCells]
    | some a =>
      rw [run_firstCells_some (P := Tryd.prog) (w := w.drew) 32 ds.length a ds.length ds.length (Lib.byteCells ((List.range ds.length).flatMap fun j => pStand ds j (pNought 0)))]
      · rfl
      · rw [Lib.byteCells_length, flat_len32 _ hfl]; omega
      · intro j v hv
        have hj : j < ds.length * 32 := by
          have := (List.getElem?_eq_some_iff.1 hv).1
          rw [Lib.byteCells_length, flat_len32 _ hfl] at this; omega
        have hne : ds ≠ [] := by intro h; rw [h] at hj; simp at hj
        obtain ⟨b, off, ha, _, hc⟩ := hds hne
        simp only [Option.some.injEq] at ha
        subst ha
        have hq : j / 32 < ds.length := by omega
        have hr := hc (j / 32) hq (j % 32) v (by
          have e4 := flat_at32 _ hfl ds.length (j / 32) hq
          have e5 : pStand ds (j / 32) (pNought 0) = ds.getD (j / 32) [] := by unfold pStand; rw [if_pos hq]
          rw [e5] at e4
          rw [← e4, ← hv]
          unfold Lib.byteCells
          rw [List.getElem?_map, List.getElem?_map, List.getElem?_take, if_pos (Nat.mod_lt _ (by decide)), List.getElem?_drop, show j / 32 * 32 + j % 32 = j by omega])
        rw [show (⟨b, off, none⟩ : Addr).add j = ⟨b, off + j, none⟩ by unfold Addr.add; split <;> simp_all]
        rw [show off + j / 32 * 32 + j % 32 = off + j by omega] at hr
        exact hr
  have hcap := grownCap_ge w (ds.length + m) ds.length 24
  have hnx : Builtin.nextslicecap (ds.length + m) ds.length * i.bytes ≤ 281474976710656 := by
    rw [e3]
    exact Nat.le_trans (Nat.mul_le_mul_right _ (nextslicecap_le (by omega))) (by omega)
  have hrun := run_append_zeros (P := Tryd.prog) w 39 3 ty 24 i _ .i64 .i64 Tryd.underlying39 Tryd.underlying3 hi e1 p ds.length m _ hf hm (by rw [e2]; decide) (by omega) hnx (by rw [e3]; omega)
  refine ⟨w.heap.size, _, _, hrun, hcap, ?_, ?_⟩
  · rw [show (Value.agg (bc (List.replicate 32 0))).cells = bc (List.replicate 32 0) from rfl, zero_cells, zero_cells]
    have hz : ∀ j, ds.length ≤ j → pStand ds j (pNought 0) = List.replicate 32 0 := fun j hj => by unfold pStand; rw [if_neg (by omega)]; rfl
    refine DL_of_take (fun j => pStand ds j (pNought 0)) hfl (ds.length + m) (B := (bc ((List.range ds.length).flatMap fun j => pStand ds j (pNought 0)) ++ bc (List.replicate (32 * m) 0) ++ bc (List.replicate (32 * (grownCap w (ds.length + m) ds.length 24 - (ds.length + m))) 0))) (t := 24) ?_ ?_
    · exact al1 w.drew _
    · rw [zeros_flat ds.length m _ hz]
      simp only [bc, Array.toList_append]
      rw [List.take_append_of_le_length (by simp [Lib.byteCells_length, flat_len32 _ hfl]; omega), List.take_of_length_le (by simp [Lib.byteCells_length, flat_len32 _ hfl]; omega)]
      simp [Lib.byteCells]
  · exact (Below.drew (Below.refl _ w)).alloc (Nat.le_refl _) _
end Go.Proofs.YtkioomojdahjlaaDoor

namespace Go.Proofs.YtkioomojdahjlaaDoor
open Go Go.RowKit
set_option linter.unusedSimpArgs false
set_option linter.unusedVariables false

theorem branches_lits (L : List UInt8) (hL : L.length = 1024) : ∃ la, Tryd.prog.keyLits 3 25 (Lib.byteCells L) = some la := by
  have hc : Tryd.prog.cellsOf 24 = 32 := by kernel_rfl
  have hct : Tryd.prog.cellsOf 25 = 1024 := by kernel_rfl
  unfold Program.keyLits
  simp only [Tryd.underlying25]
  rw [if_pos (by rw [Lib.byteCells_length, hL, hct])]
  rw [mapM_some _ (fun i => ((chk L i).map fun b => (b.toNat : Int)).map (Lit.int .u8)) _ (fun i hi => ?_)]
  · exact ⟨_, rfl⟩
  · have hi' : i < 32 := List.mem_range.1 hi
    have e : ((Lib.byteCells L).drop (i * Tryd.prog.cellsOf 24)).take (Tryd.prog.cellsOf 24) = (bc (chk L i)).toList := by
      rw [hc]; unfold chk bc Lib.byteCells; simp [List.map_take, List.map_drop]
    rw [e]
    exact dig_lits (chk L i) (chk_length L hL i hi')
theorem tree_lits (n : Nat) (hn : n < 4294967296) (L : List UInt8) (hL : L.length = 1024) : ∃ la, Tryd.prog.keyLits 4 27 (tr n L).toList = some la := by
  obtain ⟨lb, hb⟩ := branches_lits L hL
  have h1 : Tryd.prog.cellsOf 22 = 1 := by kernel_rfl
  have h2 : Tryd.prog.cellsOf 25 = 1024 := by kernel_rfl
  have h3 : Tryd.prog.cellsOf 27 = 1025 := by kernel_rfl
  have hcount : Tryd.prog.keyLits 3 22 [.int .u32 (n : Int)] = some [.int .u32 (n : Int)] := by
    unfold Program.keyLits
    simp only [Tryd.underlying22]
    rw [if_pos ⟨trivial, by simp [Lit.wf, IntKind.min, IntKind.max, IntKind.signed, IntKind.bits]; omega⟩]
  unfold Program.keyLits
  simp only [Tryd.underlying27]
  rw [if_pos ⟨by rw [h3]; simp [tr, Lib.byteCells_length, hL], by kernel_rfl⟩]
  have e2 : ((tr n L).toList.drop 1).take (Tryd.prog.cellsOf 25) = Lib.byteCells L := by
    rw [h2]; simp [tr]; exact List.take_of_length_le (by rw [Lib.byteCells_length, hL]; exact Nat.le_refl _)
  have e1 : ((tr n L).toList.drop 0).take (Tryd.prog.cellsOf 22) = [.int .u32 (n : Int)] := by rw [h1]; simp [tr]
  simp only [List.mapM_cons, List.mapM_nil, e1, e2, hcount, hb]
  exact ⟨_, rfl⟩
theorem tree_eql (n : Nat) (hn : n < 4294967296) (L : List UInt8) (hL : L.length = 1024) (w : World) : (binOp .eql 27 (.agg (tr n L)) (.agg (tr n L))).run Tryd.prog w = .ok (.bool true) w := by
  obtain ⟨la, hla⟩ := tree_lits n hn L hL
  refine eql_refl 27 4 4 (by omega) (by kernel_rfl) _ ?_ la hla w
  simp only [Value.formed, Tryd.underlying27, tr_size, hL]; kernel_rfl
end Go.Proofs.YtkioomojdahjlaaDoor

namespace Go.Proofs.YtkioomojdahjlaaDoor
open Go Go.RowKit
set_option linter.unusedSimpArgs false
set_option linter.unusedVariables false

theorem wpList_eql_gd {P : Program} {ops : Array Oper} {rest : List Oper} {o : Oper} {a : Act} {w : World} {Q : Exit → Act → World → Prop} (hw : Region.wanted o (yielded ops a.tmps) = true) (t t' : TypeId) (x y : Operand) (ho : o.op = .binOp .eql t x y t')
    (u v : Array Value) (hx : a.eval x = .agg u) (hy : a.eval y = .agg v) (hgt : P.eqGuardType P.depth t = false) (b : Bool) (he : ∀ w, (binOp .eql t (.agg u) (.agg v)).run P w = .ok (.bool b) w)
    (h : wpList P ops Q rest (a.put o.dst (.bool b)) w) : wpList P ops Q (o :: rest) a w :=
  wpList_step fun K hK => by
    rw [if_pos hw]
    have hg : (eqGuard .eql t x y (.agg u) (.agg v)).run P w = .ok () w := run_eqGuard_agg w .eql t x y u v hgt
    unfold Oper.wp execOp
    simp only [ho, hx, hy, Sem.run_bind, hg, Result.andThen_ok, he]
    exact hK _ _ h
theorem pOfD_length (ds : List (List UInt8)) (h : ∀ d ∈ ds, d.length = 32) : (pOfD ds).length = 32 :=
  pStand_length (pLev_32 _ (fun d hd => h d (List.mem_of_mem_take hd)) 32) 0 _ (pNought_length 32)
def padLen : Value → Nat
  | .slice _ n _ => 4098 - n
  | _ => 0
set_option maxHeartbeats 4000000 in
set_option maxRecDepth 100000 in
theorem merkleLists_walk (ds : List (List UInt8)) (hds : ds.length ≤ 9223372036854775807) (p : Option Addr) (cap : Nat) (hcap : ds.length ≤ cap) (more : Bool) (w : World) (hD : DL w p ds) (tabs : Tabs w) :
    Calls Tryd.prog 4 #[.slice p ds.length cap, .bool more] w fun e w' => e = .returned (.bool true) ∧ Below w.heap.size w w' := by
  have A := hide fun W t => mawake_calls W t
  have hb0 := Below.refl w.heap.size w
  by_cases hs : ds.length ≤ 60
  case neg =>
    have hd : decide ((60 : Int) < (ds.length : Int)) = true := by simp; omega
    obtain ⟨n, hn⟩ : ∃ n, ds.length = n := ⟨_, rfl⟩
    rw [hn] at hd
    rw [hn]
    clear hn hs hD hds hcap
    go_enter Tryd.func4, Tryd.ntmps4
    go_wp2_with fail
    refine (unhide A _ tabs).mono ?_
    rintro e w1 ⟨rfl, b1⟩
    go_wp2_with fail
    refine (unhide A _ (tabs.below b1 (Nat.le_refl _))).mono ?_
    rintro e w2 ⟨rfl, b2⟩
    go_wp2_with fail
    go_ret
    exact ⟨rfl, b1.trans (b2.mono b1.size)⟩
  have hd : decide ((60 : Int) < (ds.length : Int)) = false := by simp; omega
  cases more with
  | false =>
    have CO := hide fun W (h : DL W p ds) t => of_calls ds p cap hcap (by omega) W h t
    have CR := hide fun W (h : DL W p ds) => rof_calls ds p cap hcap (by omega) W h
    have CK := hide fun W (h : DL W p ds) t => keep_calls ds p cap hcap (by omega) W h t
    have CQ := hide fun W (h : DL W p ds) => rkeep_calls ds p cap hcap (by omega) W h
    have he := hide (dig_refl _ (pOfD_length ds hD.1))
    have hNT : (ds.take 4096).length < 4294967296 := by simp; omega
    generalize pOfD ds = RO at *
    obtain ⟨nt, hnt⟩ : ∃ nt, (ds.take 4096).length = nt := ⟨_, rfl⟩
    rw [hnt] at hNT CK CQ
    obtain ⟨es, hes⟩ : ∃ es, ds.take 4096 = es := ⟨_, rfl⟩
    rw [hes] at CK CQ
    obtain ⟨n, hn⟩ : ∃ n, ds.length = n := ⟨_, rfl⟩
    rw [hn] at hd CO CR CK CQ
    rw [hn]
    clear hn hs hds hcap hnt hes
    go_enter Tryd.func4, Tryd.ntmps4
    go_wp2_with fail
    refine (unhide A _ tabs).mono ?_
    rintro e w1 ⟨rfl, b1⟩
    have d1 := hD.below b1 (Nat.le_refl _)
    have t1 := tabs.below b1 (Nat.le_refl _)
    clear hD hb0 tabs
    go_wp2_with fail
    refine (unhide A _ t1).mono ?_
    rintro e w5 ⟨rfl, b5⟩
    have bW5 := b1.trans (b5.mono b1.size)
    have d5 := d1.below b5 (Nat.le_refl _)
    have t5 := t1.below b5 (Nat.le_refl _)
    clear b5
    go_wp2_with go_skip
    refine (unhide CO _ d5 t5).mono ?_
    rintro e w6 ⟨rfl, b6⟩
    have bW6 := bW5.trans (b6.mono bW5.size)
    have d6 := d5.below b6 (Nat.le_refl _)
    have t6 := t5.below b6 (Nat.le_refl _)
    clear b6 bW5 d5 t5
    go_wp2_with go_skip
    refine (unhide CR _ d6).mono ?_
    rintro e w7 ⟨rfl, b7⟩
    have bW7 := bW6.trans (b7.mono bW6.size)
    have d7 := d6.below b7 (Nat.le_refl _)
    have t7 := t6.below b7 (Nat.le_refl _)
    clear b7 bW6 d6 t6
    go_wp2_with (first
      | go_skip
      | (refine wpList_eql_gd rfl 24 24 (.tmp 28) (.tmp 30) rfl _ _ rfl rfl (by kernel_rfl) true (unhide he) ?_))
    refine (unhide CK _ d7 t7).mono ?_
    rintro e w8 ⟨⟨L1, hk1, rfl⟩, b8⟩
    have bW8 := bW7.trans (b8.mono bW7.size)
    have d8 := d7.below b8 (Nat.le_refl _)
    clear b8 bW7 d7 t7
    go_wp2_with go_skip
    refine (unhide CQ _ d8).mono ?_
    rintro e w9 ⟨⟨L2, hk2, rfl⟩, b9⟩
    have bW9 := bW8.trans (b9.mono bW8.size)
    obtain rfl : L1 = L2 := hk1.unique hk2
    have ht := hide fun W => tree_eql nt (by omega) L1 hk1.kept.len W
    clear b9 bW8 d8 hk1 hk2
    go_wp2_with (first
      | go_skip
      | (refine wpList_eql_gd rfl 27 27 (.tmp 35) (.tmp 37) rfl _ _ rfl rfl (by kernel_rfl) true (unhide ht) ?_))
    go_ret
    exact ⟨rfl, bW9⟩
  | true =>
    obtain ⟨m, hm⟩ : ∃ m, ds.length + m = 4098 := ⟨4098 - ds.length, by omega⟩
    have hms : (4098 : Int) - (ds.length : Int) = (m : Int) := by omega
    have hd2 : decide ((ds.length : Int) < 4098) = true := by simp; omega
    have hbc : (ds.length : Int) ≤ (cap : Int) := by omega
    have hpl := padDs_length ds 4098
    have hp32 : ∀ d ∈ padDs ds 4098, d.length = 32 := fun d hd' => by
      obtain ⟨j, _, rfl⟩ := List.mem_map.1 hd'
      exact pStand_length hD.1 j _ (pNought_length 0)
    have AP := hide fun W (h : DL W p ds) => append_pad ds p m (by omega) (by omega) W h 39
    have CO := hide fun g c (hc : 4098 ≤ c) W (h : DL W g (padDs ds 4098)) t => of_calls (padDs ds 4098) g c (by rw [hpl]; exact hc) (by rw [hpl]; decide) W h t
    have CR := hide fun g c (hc : 4098 ≤ c) W (h : DL W g (padDs ds 4098)) => rof_calls (padDs ds 4098) g c (by rw [hpl]; exact hc) (by rw [hpl]; decide) W h
    have CK := hide fun g c (hc : 4098 ≤ c) W (h : DL W g (padDs ds 4098)) t => keep_calls (padDs ds 4098) g c (by rw [hpl]; exact hc) (by rw [hpl]; decide) W h t
    have CQ := hide fun g c (hc : 4098 ≤ c) W (h : DL W g (padDs ds 4098)) => rkeep_calls (padDs ds 4098) g c (by rw [hpl]; exact hc) (by rw [hpl]; decide) W h
    have he := hide (dig_refl _ (pOfD_length _ hp32))
    have hNT : ((padDs ds 4098).take 4096).length < 4294967296 := by rw [List.length_take, hpl]; decide
    generalize pOfD (padDs ds 4098) = RO at *
    rw [hm] at AP
    rw [hpl] at CO CR CK CQ
    obtain ⟨nt, hnt⟩ : ∃ nt, ((padDs ds 4098).take 4096).length = nt := ⟨_, rfl⟩
    rw [hnt] at hNT CK CQ
    obtain ⟨es, hes⟩ : ∃ es, (padDs ds 4098).take 4096 = es := ⟨_, rfl⟩
    rw [hes] at CK CQ
    obtain ⟨PD, hPD⟩ : ∃ PD, padDs ds 4098 = PD := ⟨_, rfl⟩
    rw [hPD] at AP CO CR CK CQ
    obtain ⟨n, hn⟩ : ∃ n, ds.length = n := ⟨_, rfl⟩
    rw [hn] at hd hms hd2 hbc AP hs
    rw [hn]
    clear hn hds hcap hnt hes hPD hpl hp32 hm
    go_enter Tryd.func4, Tryd.ntmps4
    go_wp2_with fail
    refine (unhide A _ tabs).mono ?_
    rintro e w1 ⟨rfl, b1⟩
    have d1 := hD.below b1 (Nat.le_refl _)
    have t1 := tabs.below b1 (Nat.le_refl _)
    obtain ⟨g, c, w2, hrun, hc, dP, bP⟩ := unhide AP w1 d1
    have HR := hide hrun
    have HC := hide hc
    have HP := hide dP
    have BP := hide bP
    clear hD hb0 tabs hrun hc dP bP AP
    go_wp2
    go_loopw [0] (fun s wr => (s = .slice p n cap ∧ wr = w1) ∨ (s = .slice (some ⟨g, 0, none⟩) 4098 c ∧ wr = w2)) (fun s _ => padLen s)
    case atStart => exact .inl ⟨rfl, rfl⟩
    case round =>
      rcases hrel with ⟨rfl, rfl⟩ | ⟨rfl, rfl⟩
      · go_wp2_with (at_builtin; refine Lib.wpList_append_run _ rfl (.tmp 20) (.tmp 23) 39 3 rfl _ _ rfl rfl _ _ (unhide HR) ?_)
        refine ⟨.inr ⟨rfl, trivial⟩, ?_⟩
        show 4098 - 4098 < 4098 - n
        omega
      · have CO := hide (unhide CO (some ⟨g, 0, none⟩) c (unhide HC))
        have CR := hide (unhide CR (some ⟨g, 0, none⟩) c (unhide HC))
        have CK := hide (unhide CK (some ⟨g, 0, none⟩) c (unhide HC))
        have CQ := hide (unhide CQ (some ⟨g, 0, none⟩) c (unhide HC))
        have bb := b1.trans ((unhide BP).mono b1.size)
        have dd := unhide HP
        have tt := t1.below (unhide BP) (Nat.le_refl _)
        go_wp2_with fail
        refine (unhide A _ tt).mono ?_
        rintro e w5 ⟨rfl, b5⟩
        have bW5 := bb.trans (b5.mono bb.size)
        have d5 := dd.below b5 (Nat.le_refl _)
        have t5 := tt.below b5 (Nat.le_refl _)
        clear b5
        go_wp2_with go_skip
        refine (unhide CO _ d5 t5).mono ?_
        rintro e w6 ⟨rfl, b6⟩
        have bW6 := bW5.trans (b6.mono bW5.size)
        have d6 := d5.below b6 (Nat.le_refl _)
        have t6 := t5.below b6 (Nat.le_refl _)
        clear b6 bW5 d5 t5
        go_wp2_with go_skip
        refine (unhide CR _ d6).mono ?_
        rintro e w7 ⟨rfl, b7⟩
        have bW7 := bW6.trans (b7.mono bW6.size)
        have d7 := d6.below b7 (Nat.le_refl _)
        have t7 := t6.below b7 (Nat.le_refl _)
        clear b7 bW6 d6 t6
        go_wp2_with (first
          | go_skip
          | (refine wpList_eql_gd rfl 24 24 (.tmp 28) (.tmp 30) rfl _ _ rfl rfl (by kernel_rfl) true (unhide he) ?_))
        refine (unhide CK _ d7 t7).mono ?_
        rintro e w8 ⟨⟨L1, hk1, rfl⟩, b8⟩
        have bW8 := bW7.trans (b8.mono bW7.size)
        have d8 := d7.below b8 (Nat.le_refl _)
        clear b8 bW7 d7 t7
        go_wp2_with go_skip
        refine (unhide CQ _ d8).mono ?_
        rintro e w9 ⟨⟨L2, hk2, rfl⟩, b9⟩
        have bW9 := bW8.trans (b9.mono bW8.size)
        obtain rfl : L1 = L2 := hk1.unique hk2
        have ht := hide fun W => tree_eql nt (by omega) L1 hk1.kept.len W
        clear b9 bW8 d8 hk1 hk2
        go_wp2_with (first
          | go_skip
          | (refine wpList_eql_gd rfl 27 27 (.tmp 35) (.tmp 37) rfl _ _ rfl rfl (by kernel_rfl) true (unhide ht) ?_))
        go_ret
        exact ⟨rfl, bW9⟩
end Go.Proofs.YtkioomojdahjlaaDoor

namespace Go.Proofs.YtkioomojdahjlaaDoor
open Go.ChangeShapes Go.WideShapes Go.ChangeAt Go.RowKit

theorem shaOwn : ownKnob Tryd.prog.godebug = none := by kernel_rfl
theorem shaLaidOut : laidOutB Tryd.prog = true := by kernel_rfl
theorem gFirst : Tryd.prog.globalNamed "pontoon/sha.firstWords" = some 0 := by kernel_rfl
theorem gFirstType : (Tryd.prog.globals[0]?).map (·.type) = some 77 := by kernel_rfl
theorem gRound : Tryd.prog.globalNamed "pontoon/sha.roundWords" = some 1 := by kernel_rfl
theorem gRoundType : (Tryd.prog.globals[1]?).map (·.type) = some 114 := by kernel_rfl
theorem cells64 : Tryd.prog.cellsOf 114 = 64 := by kernel_rfl
theorem cells8 : Tryd.prog.cellsOf 77 = 8 := by kernel_rfl
theorem cellsW : Tryd.prog.cellsOf 22 = 1 := by kernel_rfl

/-- What a row lists of package sha. -/
def shaListed : List (String × DataW Unit) := [("pontoon/sha.firstWords", Rows.laid_pontoon_sha_firstWords), ("pontoon/sha.roundWords", Rows.laid_pontoon_sha_roundWords)]
def kInts : List Int := [1116352408, 1899447441, 3049323471, 3921009573, 961987163, 1508970993, 2453635748, 2870763221, 3624381080, 310598401, 607225278, 1426881987, 1925078388, 2162078206, 2614888103, 3248222580, 3835390401, 4022224774, 264347078, 604807628, 770255983, 1249150122, 1555081692, 1996064986, 2554220882, 2821834349, 2952996808, 3210313671, 3336571891, 3584528711, 113926993, 338241895, 666307205, 773529912, 1294757372, 1396182291, 1695183700, 1986661051, 2177026350, 2456956037, 2730485921, 2820302411, 3259730800, 3345764771, 3516065817, 3600352804, 4094571909, 275423344, 430227734, 506948616, 659060556, 883997877, 958139571, 1322822218, 1537002063, 1747873779, 1955562222, 2024104815, 2227730452, 2361852424, 2428436474, 2756734187, 3204031479, 3329325298]
def hInts : List Int := [1779033703, 3144134277, 1013904242, 2773480762, 1359893119, 2600822924, 528734635, 1541459225]
theorem kInts_at : ∀ j, j < 64 → kInts.getD j 0 = ((kWords.getD j 0).toNat : Int) := by decide +kernel
theorem hInts_at : ∀ j, j < 8 → hInts.getD j 0 = ((hWords.getD j 0).toNat : Int) := by decide +kernel

theorem tabs_of {W : World} (h : laidMetH Tryd.prog shaListed W) : Tabs W := by
  have h1 : Lib.TabIs Tryd.prog W "pontoon/sha.firstWords" .u32 hInts :=
    Lib.tabIs_of_head (rest := [("pontoon/sha.roundWords", Rows.laid_pontoon_sha_roundWords)]) gFirst gFirstType Tryd.underlying77 Tryd.underlying22 cellsW cells8 h
  have e : shaListed.filter (fun x => x.1 == "pontoon/sha.roundWords") = [("pontoon/sha.roundWords", Rows.laid_pontoon_sha_roundWords)] := by kernel_rfl
  have hf := h.filter (fun x => x.1 == "pontoon/sha.roundWords")
  rw [e] at hf
  have h2 : Lib.TabIs Tryd.prog W "pontoon/sha.roundWords" .u32 kInts :=
    Lib.tabIs_of_head (rest := []) gRound gRoundType Tryd.underlying114 Tryd.underlying22 cellsW cells64 hf
  have k : ∀ j, j < 64 → W.cell? ⟨1, j, none⟩ = some (.int .u32 ((kWords.getD j 0).toNat : Int)) := fun j hj => by
    rw [← kInts_at j hj]; exact h2.cell gRound j (by simpa [kInts] using hj)
  have hh : ∀ j, j < 8 → W.cell? ⟨0, j, none⟩ = some (.int .u32 ((hWords.getD j 0).toNat : Int)) := fun j hj => by
    rw [← hInts_at j hj]; exact h1.cell gFirst j (by simpa [hInts] using hj)
  exact ⟨⟨block_lt_of_cell (hh 0 (by decide)), block_lt_of_cell (k 0 (by decide))⟩, k, hh⟩

/-- A variable's cells turned. -/
def layCells (cs : Array Value) : Obj → Obj
  | .cells _ t frozen => .cells cs t frozen
  | o => o
def hCells : Array Value := #[.int .u32 1779033703, .int .u32 3144134277, .int .u32 1013904242, .int .u32 2773480762, .int .u32 1359893119, .int .u32 2600822924, .int .u32 528734635, .int .u32 1541459225]
def kCells : Array Value := #[.int .u32 1116352408, .int .u32 1899447441, .int .u32 3049323471, .int .u32 3921009573, .int .u32 961987163, .int .u32 1508970993, .int .u32 2453635748, .int .u32 2870763221, .int .u32 3624381080, .int .u32 310598401, .int .u32 607225278, .int .u32 1426881987, .int .u32 1925078388, .int .u32 2162078206, .int .u32 2614888103, .int .u32 3248222580, .int .u32 3835390401, .int .u32 4022224774, .int .u32 264347078, .int .u32 604807628, .int .u32 770255983, .int .u32 1249150122, .int .u32 1555081692, .int .u32 1996064986, .int .u32 2554220882, .int .u32 2821834349, .int .u32 2952996808, .int .u32 3210313671, .int .u32 3336571891, .int .u32 3584528711, .int .u32 113926993, .int .u32 338241895, .int .u32 666307205, .int .u32 773529912, .int .u32 1294757372, .int .u32 1396182291, .int .u32 1695183700, .int .u32 1986661051, .int .u32 2177026350, .int .u32 2456956037, .int .u32 2730485921, .int .u32 2820302411, .int .u32 3259730800, .int .u32 3345764771, .int .u32 3516065817, .int .u32 3600352804, .int .u32 4094571909, .int .u32 275423344, .int .u32 430227734, .int .u32 506948616, .int .u32 659060556, .int .u32 883997877, .int .u32 958139571, .int .u32 1322822218, .int .u32 1537002063, .int .u32 1747873779, .int .u32 1955562222, .int .u32 2024104815, .int .u32 2227730452, .int .u32 2361852424, .int .u32 2428436474, .int .u32 2756734187, .int .u32 3204031479, .int .u32 3329325298]
/-- A world for the witness: the settled one, the two tables holding what their initialisers lay. -/
noncomputable def shaWorld (os : Os) : World :=
  { World.holding Tryd.prog os ⟨#[], #[], []⟩ with heap := ((World.holding Tryd.prog os ⟨#[], #[], []⟩).heap.modify 0 (layCells hCells)).modify 1 (layCells kCells) }
theorem addr_add (b o j : Nat) : (⟨b, o, none⟩ : Addr).add j = ⟨b, o + j, none⟩ := by unfold Addr.add; split <;> simp_all

end Go.Proofs.YtkioomojdahjlaaDoor

namespace Go.Proofs.YtkioomojdahjlaaDoor
open Go.ChangeShapes Go.WideShapes Go.ChangeAt Go.RowKit

theorem mapM_ints {H : Type} {enc : TypeId × Value → H} {P : Program} {W : World} {base : Nat} {sp : Nat → Bool} {held : Bool} {e : TypeId} {q : IntKind} (he : P.underlying e = some (.int q)) {m : Nat} {cs : List Value} {c : Nat} :
    ∀ (L : List Nat) (xs : List (DataW H × List MemPlace)), L.mapM (fun i => DataW.trod enc P W base sp held m e ((cs.drop (i * c)).take c)) = some xs → ∀ i ∈ L, ∃ a, (cs.drop (i * c)).take c = [.int q a] ∧ (Lit.int q a).wf = true
  | [], xs, h => by intro i hi; cases hi
  | i :: L, xs, h => by
    rw [List.mapM_cons] at h
    simp only [bind, Option.bind_eq_some_iff, pure, Option.some.injEq] at h
    obtain ⟨y, hy, ys, hys, rfl⟩ := h
    intro j hj
    rcases List.mem_cons.1 hj with rfl | hj
    · obtain ⟨a, ea, _, wa⟩ := DataW.trod_int he hy
      exact ⟨a, ea, wa⟩
    · exact mapM_ints he L ys hys j hj
/-- The numbers of an array that came in. -/
theorem open_numbers {H : Type} {enc : TypeId × Value → H} {P : Program} {W : World} {base : Nat} {sp : Nat → Bool} {held : Bool} {k e : TypeId} {n : Nat} {q : IntKind} (A : WideMaps.ArrKey P k e n) (he : P.underlying e = some (.int q))
    {xs : Array Value} (hn : xs.size = n) {d : DataW H} {ps : List MemPlace} (hd : DataW.Trod enc P W base sp held k (.agg xs) d ps) :
    ∃ zs : List Int, zs.length = n ∧ xs = (zs.map (Value.int q)).toArray ∧ ∀ z ∈ zs, (Lit.int q z).wf = true := by
  obtain ⟨fuel, hf⟩ := hd
  cases fuel with
  | zero => simp [DataW.trod] at hf
  | succ m =>
    rw [DataW.trod_step] at hf
    unfold DataW.trodStep at hf
    simp only [A.hu, Value.cells] at hf
    rw [if_pos (by rw [A.size]; simpa using hn)] at hf
    simp only [Option.map_eq_some_iff] at hf
    obtain ⟨ys, hy, e1⟩ := hf
    have hc := mapM_ints he _ ys hy
    rw [A.one] at hc
    have hc' : ∀ i, i < n → ∃ a, xs.toList[i]? = some (.int q a) ∧ (Lit.int q a).wf = true := fun i hi => by
      obtain ⟨a, ha, hw⟩ := hc i (List.mem_range.2 hi)
      refine ⟨a, ?_, hw⟩
      rw [Nat.mul_one] at ha
      have h0 : ((xs.toList.drop i).take 1)[0]? = some (.int q a) := by rw [ha]; rfl
      simpa using h0
    refine ⟨xs.toList.map intOf, by simpa using hn, ?_, ?_⟩
    · apply Array.ext'
      simp only [List.map_map]
      apply List.ext_getElem?
      intro i
      by_cases hi : i < n
      · obtain ⟨a, ha, _⟩ := hc' i hi
        rw [ha]; simp [ha, intOf]
      · rw [List.getElem?_eq_none (by simpa [hn] using Nat.le_of_not_lt hi), List.getElem?_eq_none (by simpa [hn] using Nat.le_of_not_lt hi)]
    · intro z hz
      obtain ⟨v, hv, rfl⟩ := List.mem_map.1 hz
      obtain ⟨i, hi, rfl⟩ := List.getElem_of_mem hv
      obtain ⟨a, ha, hw⟩ := hc' i (by simpa [hn] using hi)
      rw [List.getElem?_eq_getElem hi] at ha
      rw [Option.some.inj ha]; exact hw
end Go.Proofs.YtkioomojdahjlaaDoor

namespace Go.Proofs.YtkioomojdahjlaaDoor
open Go.ChangeShapes Go.WideShapes Go.ChangeAt Go.RowKit
set_option linter.unusedVariables false

theorem arrD : WideMaps.ArrKey Tryd.prog 24 5 32 := ⟨Tryd.underlying24, by kernel_rfl, by kernel_rfl, by kernel_rfl⟩
theorem open_digest {H : Type} {enc : TypeId × Value → H} {W : World} {base : Nat} {sp : Nat → Bool} {held : Bool} {xs : Array Value} (hn : xs.size = 32) {d : DataW H} {ps : List MemPlace} (hd : DataW.Trod enc Tryd.prog W base sp held 24 (.agg xs) d ps) :
    ∃ l : List UInt8, xs = bc l ∧ l.length = 32 := by
  obtain ⟨zs, hl, rfl, hw⟩ := open_numbers arrD Tryd.underlying5 hn hd
  have e : ∀ z ∈ zs, ((UInt8.ofNat z.toNat).toNat : Int) = z := fun z hz => by
    have := hw z hz
    simp [Lit.wf, IntKind.min, IntKind.max, IntKind.signed, IntKind.bits] at this
    rw [UInt8.toNat_ofNat']; omega
  refine ⟨zs.map fun z => UInt8.ofNat z.toNat, ?_, by simpa using hl⟩
  unfold bc Lib.byteCells
  rw [List.map_map]
  congr 1
  apply List.map_congr_left
  intro z hz
  simp only [Function.comp_apply]
  rw [e z hz]
end Go.Proofs.YtkioomojdahjlaaDoor

namespace Go.Proofs.YtkioomojdahjlaaDoor
open Go.ChangeShapes Go.WideShapes Go.ChangeAt Go.RowKit
set_option linter.unusedVariables false

theorem open_dl {H : Type} {enc : TypeId × Value → H} {W : World} {base : Nat} {sp : Nat → Bool} {held : Bool} {v : Value} {d : DataW H} {ps : List MemPlace} (hd : DataW.Trod enc Tryd.prog W base sp held 39 v d ps) (hv : ∃ p n cap, v = .slice p n cap) :
    ∃ p ds cap, v = .slice p ds.length cap ∧ ds.length ≤ cap ∧ ds.length ≤ maxLen ∧ DL W p ds := by
  obtain ⟨p, n0, cap0, rfl⟩ := hv
  obtain ⟨fuel, h⟩ := hd
  have hc : Tryd.prog.cellsOf 24 = 32 := by kernel_rfl
  rcases Deep.open_slice Tryd.underlying39 h with ⟨e, _⟩ | ⟨a, len, cap, m, n, D, Pl, e, hb, hlc, hcm, hm, hx, hel⟩
  · simp [Value.cells] at e
    obtain ⟨rfl, rfl, rfl⟩ := e
    exact ⟨none, [], 0, rfl, by simp, by simp, ⟨fun d hd => by simp at hd, fun hn => absurd rfl hn⟩⟩
  · simp [Value.cells] at e
    obtain ⟨rfl, rfl, rfl⟩ := e
    have hlm : n0 ≤ m := by rw [hm]; split <;> omega
    rw [hc] at hel
    have each : ∀ i, i < n0 → ∃ l : List UInt8, l.length = 32 ∧ ∀ j, j < 32 → W.cell? (a.add (i * 32 + j)) = (bc l)[j]? := fun i hi => by
      obtain ⟨cs', h1, h2⟩ := hel i (by omega)
      obtain ⟨h3, h4, h5⟩ := World.cells?_some h1
      obtain ⟨l, hl, hll⟩ := open_digest (xs := cs'.toArray) (by simpa using h4) ⟨n, h2⟩
      refine ⟨l, hll, fun j hj => ?_⟩
      have h7 := h5 j hj
      rw [Deep.add_add] at h7
      rw [h7, ← hl]
      simp
    let F : Nat → List UInt8 := fun i => if h : i < n0 then Classical.choose (each i h) else List.replicate 32 0
    have hF : ∀ i (hi : i < n0), (F i).length = 32 ∧ ∀ j, j < 32 → W.cell? (a.add (i * 32 + j)) = (bc (F i))[j]? := fun i hi => by
      have : F i = Classical.choose (each i hi) := by show (if h : i < n0 then _ else _) = _; rw [dif_pos hi]
      rw [this]; exact Classical.choose_spec (each i hi)
    refine ⟨some a, (List.range n0).map F, cap0, by simp, by simpa using hlc, by simp; omega, ⟨fun d hd => ?_, fun hn => ?_⟩⟩
    · obtain ⟨i, hi, rfl⟩ := List.mem_map.1 hd
      exact (hF i (List.mem_range.1 hi)).1
    · have h0 : 0 < n0 := by
        rcases Nat.eq_zero_or_pos n0 with h | h
        · subst h; simp at hn
        · exact h
      obtain ⟨b, off, spot⟩ := a
      have hc0 : W.cell? ((⟨b, off, spot⟩ : Addr).add (0 * 32 + 0)) = some (.int .u8 (((F 0).getD 0 0).toNat : Int)) := by
        rw [(hF 0 h0).2 0 (by omega)]; exact bc_at _ _ (by rw [(hF 0 h0).1]; omega)
      have hspot : spot = none := by simpa [Addr.add] using World.cell?_spot hc0
      subst hspot
      refine ⟨b, off, rfl, ?_, fun i hi j v hv => ?_⟩
      · have := block_lt_of_cell hc0; simpa [Addr.add] using this
      · have hi' : i < n0 := by simpa using hi
        have e1 : ((List.range n0).map F).getD i [] = F i := by simp [hi']
        rw [e1] at hv
        have hj : j < 32 := by
          have := (List.getElem?_eq_some_iff.1 hv).1
          rw [Lib.byteCells_length, (hF i hi').1] at this
          exact this
        have h8 := (hF i hi').2 j hj
        have e2 : (⟨b, off, none⟩ : Addr).add (i * 32 + j) = ⟨b, off + i * 32 + j, none⟩ := by unfold Addr.add; split <;> simp_all [Nat.add_assoc]
        rw [e2] at h8
        rw [h8]
        simpa [bc] using hv
end Go.Proofs.YtkioomojdahjlaaDoor
