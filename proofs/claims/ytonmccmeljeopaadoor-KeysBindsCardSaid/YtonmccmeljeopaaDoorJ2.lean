/-
  WHAT THE REFERENCE'S Block RETURNS.
-/
/-
  WHAT THE REFERENCE'S After RETURNS.
-/
/-
  A SLICE OF BYTES THAT THE CALL OWNS, appended to.
-/
/-
  WHAT THE REFERENCE'S End RETURNS.
-/
/-
  WHAT THE REFERENCE'S Sum RETURNS.
-/
/-
  THE DOCUMENT's OWN DIGEST OF A DOMAIN AND PARTS (layer 4), where there is no log.
-/
/-
  A ROW LOADED WHOLE INSIDE A REGION THAT DRAWS ITS ORDER, as a step of the quiet walk. Over whatever program.
-/
/-
  A REGION THAT DRAWS ITS ORDER: quiet operations first (reads; calls that lay memory and turn none), all of which the rest waits for; the rest in whatever order is left to it. Over whatever program.
-/
import Derived.Test.YtonmccmeljeopaaDoorJ1
import Derived.Test.YtonmccmeljeopaaDoorJ0
import Derived.Lib.BufSteps
import Derived.Laws.Rows
namespace Go.Proofs.YtonmccmeljeopaaDoor
open Go.RowKit
set_option linter.unusedSimpArgs false
set_option linter.unusedVariables false

/-- What the block's walk keeps: the words, the result, the constants, the schedule so far. -/
structure Fr (w : World) (G : Nat) (xs ws : List (BitVec 32)) (wr : World) : Prop where
  below : Below w.heap.size w wr
  size : G + 1 < wr.heap.size
  h : wr.heap[w.heap.size]? = some (.cells (wc xs) 100 (0, 0))
  r : wr.heap[w.heap.size + 1]? = some (.cells (wc (List.replicate 8 0)) 100 (0, 0))
  k : wr.heap[G]? = some (.cells (wc kWords) 122 (0, 0))
  s : wr.heap[G + 1]? = some (.cells (wc ws) 122 (0, 0))
theorem Fr.drewN {w wr : World} {G : Nat} {xs ws : List (BitVec 32)} (h : Fr w G xs ws wr) (n : Nat) : Fr w G xs ws (wr.drewN n) :=
  ⟨below_drewN h.below n, h.size, h.h, h.r, h.k, h.s⟩
theorem Fr.set {w wr : World} {G : Nat} {xs ws zs : List (BitVec 32)} {z : BitVec 32} (h : Fr w G xs (ws ++ z :: zs) wr) (hG : w.heap.size + 1 + 1 ≤ G) (i : Nat) (hi : i = ws.length) (x : BitVec 32) :
    Fr w G xs (ws ++ [x] ++ zs) (wr.setCell ⟨G + 1, i, none⟩ (.int .u32 (x.toNat : Int))) := by
  refine ⟨h.below.setCell (by show w.heap.size ≤ G + 1; omega) _, by simpa using h.size, ?_, ?_, ?_, ?_⟩
  · rw [heap_setCell_other _ _ _ _ (by show _ ≠ G + 1; omega)]; exact h.h
  · rw [heap_setCell_other _ _ _ _ (by show _ ≠ G + 1; omega)]; exact h.r
  · rw [heap_setCell_other _ _ _ _ (by show _ ≠ G + 1; omega)]; exact h.k
  · rw [heap_setCell_same _ _ _ _ _ _ h.s, wc_set _ _ _ _ _ hi]

theorem f_smallZero (x : BitVec 32) : bits BinOp.xor IntKind.u32 (bits BinOp.xor IntKind.u32 ((rotr x 7).toNat : Int) ((rotr x 18).toNat : Int)) ((x.toNat : Int) / 8) = ((pSmallZero x).toNat : Int) := by
  rw [show (x.toNat : Int) / (8 : Int) = ((x >>> 3).toNat : Int) from b_shr x 3, b_xor, b_xor]; rfl
theorem f_smallOne (x : BitVec 32) : bits BinOp.xor IntKind.u32 (bits BinOp.xor IntKind.u32 ((rotr x 17).toNat : Int) ((rotr x 19).toNat : Int)) ((x.toNat : Int) / 1024) = ((pSmallOne x).toNat : Int) := by
  rw [show (x.toNat : Int) / (1024 : Int) = ((x >>> 10).toNat : Int) from b_shr x 10, b_xor, b_xor]; rfl
theorem f_bigZero (x : BitVec 32) : bits BinOp.xor IntKind.u32 (bits BinOp.xor IntKind.u32 ((rotr x 2).toNat : Int) ((rotr x 13).toNat : Int)) ((rotr x 22).toNat : Int) = ((pBigZero x).toNat : Int) := by
  rw [b_xor, b_xor]; rfl
theorem f_bigOne (x : BitVec 32) : bits BinOp.xor IntKind.u32 (bits BinOp.xor IntKind.u32 ((rotr x 6).toNat : Int) ((rotr x 11).toNat : Int)) ((rotr x 25).toNat : Int) = ((pBigOne x).toNat : Int) := by
  rw [b_xor, b_xor]; rfl
theorem f_choice (x y z : BitVec 32) : bits BinOp.xor IntKind.u32 (bits BinOp.and IntKind.u32 (x.toNat : Int) (y.toNat : Int)) (bits BinOp.and IntKind.u32 (bits BinOp.xor IntKind.u32 4294967295 (x.toNat : Int)) (z.toNat : Int)) = ((pChoice x y z).toNat : Int) := by
  rw [show (4294967295 : Int) = IntKind.u32.max from by decide, b_not, b_and, b_and, b_xor]; rfl
theorem f_majority (x y z : BitVec 32) : bits BinOp.xor IntKind.u32 (bits BinOp.xor IntKind.u32 (bits BinOp.and IntKind.u32 (x.toNat : Int) (y.toNat : Int)) (bits BinOp.and IntKind.u32 (x.toNat : Int) (z.toNat : Int))) (bits BinOp.and IntKind.u32 (y.toNat : Int) (z.toNat : Int)) = ((pMajority x y z).toNat : Int) := by
  rw [b_and, b_and, b_and, b_xor, b_xor]; rfl

set_option maxHeartbeats 2000000 in
set_option maxRecDepth 100000 in
theorem rblock_calls (st : S8) (gb off cap : Nat) (l : List UInt8) (hl : l.length = 64) (hc : 64 ≤ cap) (w : World) (hg : gb < w.heap.size) (hs : Bytes w gb off l) :
    Calls Tryd.prog 65 #[.agg st.cells, .slice (some ⟨gb, off, none⟩) 64 cap] w fun e w' => e = .returned (.agg (pBlock st l).cells) ∧ Below w.heap.size w w' := by
  generalize hP : pBlock st l = PB
  have HP := hide hP
  clear hP
  obtain ⟨a, b, c, d, e, f, g, h⟩ := st
  have hargs : (S8.mk a b c d e f g h).cells = #[.int .u32 (a.toNat : Int), .int .u32 (b.toNat : Int), .int .u32 (c.toNat : Int), .int .u32 (d.toNat : Int), .int .u32 (e.toNat : Int), .int .u32 (f.toNat : Int), .int .u32 (g.toNat : Int), .int .u32 (h.toNat : Int)] := rfl
  rw [hargs]
  clear hargs
  have Hl := hide hl
  clear hl
  go_enter Tryd.func65, Tryd.ntmps65
  go_wp2_with fail
  refine (constants_calls _).mono ?_
  rintro en w1 ⟨rfl, hb1⟩
  have hz1 : w.heap.size + 1 + 1 ≤ w1.heap.size := by have := hb1.size; simpa using this
  have q0 : w1.heap[w.heap.size]? = some (.cells (wc [a, b, c, d, e, f, g, h]) 100 (0, 0)) := Below.at hb1 (by simp; omega) (al2 _ _ _).1
  have q1 : w1.heap[w.heap.size + 1]? = some (.cells (wc (List.replicate 8 0)) 100 (0, 0)) := Below.at hb1 (by simp) (al2 _ _ _).2
  have hb : Below w.heap.size w w1 := (bel2 _ _ _).trans (hb1.mono (by simp; omega))
  clear hb1
  have hs1 := hs.below hb hg
  have hik : (Tryd.prog.info? 122).map (·.size) = some (wc kWords).size := by rw [wc_size]; kernel_rfl
  have qk0 : (w1.alloc (.cells (wc (List.replicate 64 0)) 122)).heap[w1.heap.size]? = some (.cells (wc (List.replicate 64 0)) 122 (0, 0)) := al1 _ _
  go_wp2_with (refine wpList_store_row rfl 122 (.tmp 5) (.tmp 26) rfl w1.heap.size _ rfl rfl 122 _ qk0 hik (by rw [wc_size, wc_size]; rfl) (wc_oneCell _) ?_)
  obtain ⟨W, hW⟩ : ∃ W, W = ((w1.alloc (.cells (wc (List.replicate 64 0)) 122)).setRow w1.heap.size (wc kWords)).alloc (.cells (wc (List.replicate 64 0)) 122) := ⟨_, rfl⟩
  change Code.wp _ _ _ _ (((w1.alloc (.cells (wc (List.replicate 64 0)) 122)).setRow w1.heap.size (wc kWords)).alloc (.cells (wc (List.replicate 64 0)) 122))
  rw [← hW]
  have fr : Fr w w1.heap.size [a, b, c, d, e, f, g, h] (sched16 l 0 ++ List.replicate (64 - 0) 0) W := by
    have z2 : ((w1.alloc (.cells (wc (List.replicate 64 0)) 122)).setRow w1.heap.size (wc kWords)).heap.size = w1.heap.size + 1 := by rw [setRow_size]; simp
    refine ⟨?_, ?_, ?_, ?_, ?_, ?_⟩
    · rw [hW]; exact (below_setRow (hb.alloc (by omega) _) (by omega) _).alloc (by omega) _
    · rw [hW]; simp
    · rw [hW, Below.heap_alloc _ _ _ (by omega), setRow_other _ _ _ _ (by omega), Below.heap_alloc _ _ _ (by omega)]; exact q0
    · rw [hW, Below.heap_alloc _ _ _ (by omega), setRow_other _ _ _ _ (by omega), Below.heap_alloc _ _ _ (by omega)]; exact q1
    · rw [hW, Below.heap_alloc _ _ _ (by omega)]; exact setRow_heap _ _ _ _ _ _ qk0
    · rw [hW, ← z2]; exact al1 _ _
  have hsW : Bytes W gb off l := hs.below fr.below hg
  clear hW qk0 hik hs1 hb q0 q1
  generalize w1.heap.size = G at *
  clear w1
  go_loopw [7] (fun i wr => ∃ k : Nat, k ≤ 16 ∧ i = .int .i64 k ∧ Fr w G [a, b, c, d, e, f, g, h] (sched16 l k ++ List.replicate (64 - k) 0) wr) (fun i _ => 16 - (intOf i).toNat)
  case atStart => exact ⟨0, by omega, rfl, fr⟩
  case round =>
    clear fr hsW
    obtain ⟨k, hk, rfl, fr⟩ := hrel
    by_cases hlt : k < 16
    · have hb := hs.below fr.below hg
      have hl := unhide Hl
      obtain ⟨n, Hn, en⟩ : ∃ n : Nat, Hid (4 * k = n) ∧ (4 : Int) * (k : Int) = (n : Int) := ⟨4 * k, rfl, by omega⟩
      have hn := unhide Hn
      have b0 := hb n (by omega)
      have b1 := hb (n + 1) (by omega)
      have b2 := hb (n + 2) (by omega)
      have b3 := hb (n + 3) (by omega)
      obtain ⟨x0, e0, c0⟩ : ∃ x : UInt8, Hid (l.getD n 0 = x) ∧ wr.cell? ⟨gb, off + n, none⟩ = some (.int .u8 (x.toNat : Int)) := ⟨_, rfl, b0⟩
      obtain ⟨x1, e1, c1⟩ : ∃ x : UInt8, Hid (l.getD (n + 1) 0 = x) ∧ wr.cell? ⟨gb, off + (n + 1), none⟩ = some (.int .u8 (x.toNat : Int)) := ⟨_, rfl, b1⟩
      obtain ⟨x2, e2, c2⟩ : ∃ x : UInt8, Hid (l.getD (n + 2) 0 = x) ∧ wr.cell? ⟨gb, off + (n + 2), none⟩ = some (.int .u8 (x.toNat : Int)) := ⟨_, rfl, b2⟩
      obtain ⟨x3, e3, c3⟩ : ∃ x : UInt8, Hid (l.getD (n + 3) 0 = x) ∧ wr.cell? ⟨gb, off + (n + 3), none⟩ = some (.int .u8 (x.toNat : Int)) := ⟨_, rfl, b3⟩
      have i0 : (0:Int) ≤ n ∧ (n : Int) < 64 := by omega
      have i1 : (0:Int) ≤ n + 1 ∧ (n : Int) + 1 < 64 := by omega
      have i2 : (0:Int) ≤ n + 2 ∧ (n : Int) + 2 < 64 := by omega
      have i3 : (0:Int) ≤ n + 3 ∧ (n : Int) + 3 < 64 := by omega
      have w0 := wi64 n (by omega) (by omega)
      have w1 := wi64 (n + 1) (by omega) (by omega)
      have w2 := wi64 (n + 2) (by omega) (by omega)
      have w3 := wi64 (n + 3) (by omega) (by omega)
      have t1 : ((n : Int) + 1).toNat = n + 1 := by omega
      have t2 : ((n : Int) + 2).toNat = n + 2 := by omega
      have t3 : ((n : Int) + 3).toNat = n + 3 := by omega
      have ik : (0:Int) ≤ k ∧ (k : Int) < 64 := by omega
      have hlen : (sched16 l k ++ List.replicate (64 - k) (0 : BitVec 32)).length = 64 := by simp [sched16_length]; omega
      have cs : wr.cell? ⟨G + 1, k, none⟩ = some (.int .u32 (((sched16 l k ++ List.replicate (64 - k) (0 : BitVec 32)).getD k 0).toNat : Int)) := by
        rw [cell_of_row _ _ _ _ _ _ fr.s]; exact wc_at _ _ (by rw [hlen]; omega)
      have fz : wr.frozen? ⟨G + 1, k, none⟩ = false := frozen_of_row _ _ _ _ _ fr.s
      clear hl hn hb b0 b1 b2 b3 hlen
      go_wp2
      refine wp_region_still_tail 35 mixed (by kernel_rfl) ?_
      simp only [List.take_succ_cons, List.take_zero, List.drop_succ_cons, List.drop_zero]
      iterate 35 still_step
      refine wpStill_nil ?_
      go_wp2
      go_roundw
      case rel =>
        refine ⟨k + 1, by omega, by go_num, ?_⟩
        have e : List.replicate (64 - k) (0 : BitVec 32) = 0 :: List.replicate (64 - (k + 1)) 0 := by rw [show 64 - k = (64 - (k + 1)) + 1 by omega]; rfl
        rw [e] at fr
        have hx : wAt l (4 * k) = word x0 x1 x2 x3 := by unfold wAt; rw [unhide Hn, unhide e0, unhide e1, unhide e2, unhide e3]
        rw [sched16_succ, hx]
        refine Eq.mp (congrArg (fun z => Fr w G _ _ (World.setCell _ _ (.int .u32 z))) ?_) ((fr.drewN 1).set hz1 k (sched16_length _ _).symm (word x0 x1 x2 x3))
        rw [word_toNat]
        have := x0.toNat_lt; have := x1.toNat_lt; have := x2.toNat_lt; have := x3.toNat_lt
        omega
      case measure => simp [intOf]; omega
    · have fr0 : Fr w G [a, b, c, d, e, f, g, h] (schedN l 0 ++ List.replicate (48 - 0) 0) wr := by
        have := fr; rw [show k = 16 by omega] at this; exact this
      have hd : decide ((k : Int) < 16) = false := by simp; omega
      clear fr
      go_wp2
      go_loopw [8] (fun i wr => ∃ k : Nat, k ≤ 48 ∧ i = .int .i64 (16 + k : Nat) ∧ Fr w G [a, b, c, d, e, f, g, h] (schedN l k ++ List.replicate (48 - k) 0) wr) (fun i _ => 64 - (intOf i).toNat)
      case atStart => exact ⟨0, by omega, rfl, fr0⟩
      case round =>
        clear fr0
        obtain ⟨k, hk, rfl, fr⟩ := hrel
        by_cases hlt : k < 48
        · generalize hn : 16 + k = n
          have hlen : (schedN l k ++ List.replicate (48 - k) (0 : BitVec 32)).length = 64 := by simp [schedN_length]; omega
          have hcell : ∀ j, j < 64 → wr.cell? ⟨G + 1, j, none⟩ = some (.int .u32 (((schedN l k ++ List.replicate (48 - k) (0 : BitVec 32)).getD j 0).toNat : Int)) := fun j hj => by
            rw [cell_of_row _ _ _ _ _ _ fr.s]; exact wc_at _ _ (by rw [hlen]; omega)
          have hget : ∀ j, j < n → ∃ x : BitVec 32, Hid ((schedN l k).getD j 0 = x) ∧ wr.cell? ⟨G + 1, j, none⟩ = some (.int .u32 (x.toNat : Int)) := fun j hj =>
            ⟨_, rfl, by rw [hcell j (by omega), List.getD_eq_getElem?_getD, List.getElem?_append_left (by rw [schedN_length]; omega), ← List.getD_eq_getElem?_getD]⟩
          have hfz : wr.frozen? ⟨G + 1, n, none⟩ = false := frozen_of_row _ _ _ _ _ fr.s
          have c0 := hcell n (by omega)
          obtain ⟨x2, e2, c2⟩ := hget (n - 2) (by omega)
          obtain ⟨x7, e7, c7⟩ := hget (n - 7) (by omega)
          obtain ⟨x15, e15, c15⟩ := hget (n - 15) (by omega)
          obtain ⟨x16, e16, c16⟩ := hget (n - 16) (by omega)
          have am := a_mod
          have aw := a_wrap
          have b0 : (0:Int) ≤ n ∧ (n : Int) < 64 := by omega
          have b2 : (2:Int) ≤ n ∧ (n : Int) - 2 < 64 := by omega
          have t2 : ((n : Int) - 2).toNat = n - 2 := by omega
          have b7 : (7:Int) ≤ n ∧ (n : Int) - 7 < 64 := by omega
          have t7 : ((n : Int) - 7).toNat = n - 7 := by omega
          have b15 : (15:Int) ≤ n ∧ (n : Int) - 15 < 64 := by omega
          have t15 : ((n : Int) - 15).toNat = n - 15 := by omega
          have b16 : (16:Int) ≤ n ∧ (n : Int) - 16 < 64 := by omega
          have t16 : ((n : Int) - 16).toNat = n - 16 := by omega
          have w2 := wi64 (n - 2) (by omega) (by omega)
          have w7 := wi64 (n - 7) (by omega) (by omega)
          have w15 := wi64 (n - 15) (by omega) (by omega)
          have w16 := wi64 (n - 16) (by omega) (by omega)
          have sz := f_smallZero x15
          have so := f_smallOne x2
          have Hn := hide hn
          clear hn hcell hget hlen
          go_wp2
          go_quiet ((first | (go_at_call 70; exact Calls.quiet_of_same (rturn_calls _ _ (by omega) (by omega) _))))
          go_wp2
          generalize hv2 : wr.drewN nq = v2
          have hc2 : ∀ p, v2.cell? p = wr.cell? p := fun p => by rw [← hv2]; rfl
          have Hv2 := hide hv2
          clear hv2
          go_quiet ((first | (go_at_call 70; exact Calls.quiet_of_same (rturn_calls _ _ (by omega) (by omega) _))))
          go_wp2
          have fr3 : Fr w G [a, b, c, d, e, f, g, h] (schedN l k ++ List.replicate (48 - k) 0) (v2.drewN nq) := by rw [← unhide Hv2]; exact (fr.drewN _).drewN _
          have hc3 : ∀ p, (v2.drewN nq).cell? p = wr.cell? p := hc2
          have hz3 : (v2.drewN nq).frozen? ⟨G + 1, n, none⟩ = false := frozen_of_row _ _ _ _ _ fr3.s
          generalize v2.drewN nq = v3 at *
          clear hc2 Hv2 fr
          refine wp_region_still_tail 15 mixed (by kernel_rfl) ?_
          simp only [List.take_succ_cons, List.take_zero, List.drop_succ_cons, List.drop_zero]
          iterate 15 still_step
          refine wpStill_nil ?_
          go_wp2
          go_roundw
          case rel =>
            have hn := unhide Hn
            have hx : schedNext (schedN l k) = addw (addw (addw x16 (pSmallZero x15)) x7) (pSmallOne x2) := by
              unfold schedNext; rw [schedN_length, hn, unhide e2, unhide e7, unhide e15, unhide e16]
              simp only [addw]; ac_rfl
            refine ⟨k + 1, by omega, by rw [← hn]; go_num, ?_⟩
            have e : List.replicate (48 - k) (0 : BitVec 32) = 0 :: List.replicate (48 - (k + 1)) 0 := by rw [show 48 - k = (48 - (k + 1)) + 1 by omega]; rfl
            rw [e] at fr3
            show Fr w G _ ((schedN l k ++ [schedNext (schedN l k)]) ++ _) _
            rw [hx]
            exact (fr3.drewN 1).set hz1 n (by rw [schedN_length]; omega) _
          case measure => simp [intOf]; omega
        · have frS : Fr w G [a, b, c, d, e, f, g, h] (sched l) wr := by
            have := fr; rw [show k = 48 by omega] at this; simpa [sched] using this
          have hd2 : decide (((16 + k : Nat) : Int) < 64) = false := by simp; omega
          have q0 := frS.h
          have c0 : wr.cell? ⟨w.heap.size, 0, none⟩ = some (.int .u32 (a.toNat : Int)) := cell_of_row _ _ _ _ _ _ q0
          have c1 : wr.cell? ⟨w.heap.size, 1, none⟩ = some (.int .u32 (b.toNat : Int)) := cell_of_row _ _ _ _ _ _ q0
          have c2 : wr.cell? ⟨w.heap.size, 2, none⟩ = some (.int .u32 (c.toNat : Int)) := cell_of_row _ _ _ _ _ _ q0
          have c3 : wr.cell? ⟨w.heap.size, 3, none⟩ = some (.int .u32 (d.toNat : Int)) := cell_of_row _ _ _ _ _ _ q0
          have c4 : wr.cell? ⟨w.heap.size, 4, none⟩ = some (.int .u32 (e.toNat : Int)) := cell_of_row _ _ _ _ _ _ q0
          have c5 : wr.cell? ⟨w.heap.size, 5, none⟩ = some (.int .u32 (f.toNat : Int)) := cell_of_row _ _ _ _ _ _ q0
          have c6 : wr.cell? ⟨w.heap.size, 6, none⟩ = some (.int .u32 (g.toNat : Int)) := cell_of_row _ _ _ _ _ _ q0
          have c7 : wr.cell? ⟨w.heap.size, 7, none⟩ = some (.int .u32 (h.toNat : Int)) := cell_of_row _ _ _ _ _ _ q0
          clear q0 fr
          go_wp2
          go_quiet (fail)
          go_wp2
          have frN := frS.drewN nq
          generalize wr.drewN nq = v at *
          clear c0 c1 c2 c3 c4 c5 c6 c7 frS hd2 hd
          go_loopw [11, 12, 13, 14, 15, 16, 17, 18, 19] (fun y0 y1 y2 y3 y4 y5 y6 y7 i wr => ∃ (k : Nat) (r0 r1 r2 r3 r4 r5 r6 r7 : BitVec 32), k ≤ 64 ∧ i = .int .i64 k ∧ y0 = .int .u32 (r0.toNat : Int) ∧ y1 = .int .u32 (r1.toNat : Int) ∧ y2 = .int .u32 (r2.toNat : Int) ∧ y3 = .int .u32 (r3.toNat : Int) ∧ y4 = .int .u32 (r4.toNat : Int) ∧ y5 = .int .u32 (r5.toNat : Int) ∧ y6 = .int .u32 (r6.toNat : Int) ∧ y7 = .int .u32 (r7.toNat : Int) ∧ Hid (pRounds (sched l) ⟨a, b, c, d, e, f, g, h⟩ k = ⟨r0, r1, r2, r3, r4, r5, r6, r7⟩) ∧ Fr w G [a, b, c, d, e, f, g, h] (sched l) wr) (fun _ _ _ _ _ _ _ _ i _ => 64 - (intOf i).toNat)
          case atStart => exact ⟨0, a, b, c, d, e, f, g, h, by omega, rfl, rfl, rfl, rfl, rfl, rfl, rfl, rfl, rfl, rfl, frN⟩
          case round =>
            clear frN
            obtain ⟨k, r0, r1, r2, r3, r4, r5, r6, r7, hk, rfl, rfl, rfl, rfl, rfl, rfl, rfl, rfl, rfl, Hr, fr⟩ := hrel
            by_cases hlt : k < 64
            · obtain ⟨xk, ek, ck⟩ : ∃ x : BitVec 32, Hid (kWords.getD k 0 = x) ∧ wr.cell? ⟨G, k, none⟩ = some (.int .u32 (x.toNat : Int)) := ⟨_, rfl, by rw [cell_of_row _ _ _ _ _ _ fr.k]; exact wc_at _ _ hlt⟩
              obtain ⟨xw, ew, cw⟩ : ∃ x : BitVec 32, Hid ((sched l).getD k 0 = x) ∧ wr.cell? ⟨G + 1, k, none⟩ = some (.int .u32 (x.toNat : Int)) := ⟨_, rfl, by rw [cell_of_row _ _ _ _ _ _ fr.s]; exact wc_at _ _ (by rw [sched_length]; exact hlt)⟩
              have bk : (0:Int) ≤ k ∧ (k : Int) < 64 := by omega
              have am := a_mod
              have aw := a_wrap
              have f1 := f_bigOne r4
              have f2 := f_choice r4 r5 r6
              have f3 := f_bigZero r0
              have f4 := f_majority r0 r1 r2
              go_wp2
              go_quiet ((first | (go_at_call 70; exact Calls.quiet_of_same (rturn_calls _ _ (by omega) (by omega) _))))
              have fr2 := fr.drewN nq
              generalize wr.drewN nq = v2 at *
              clear ck cw
              go_wp2_with (go_at_call 70; refine (rturn_calls _ _ (by omega) (by omega) _).mono ?_; rintro en w' ⟨rfl, rfl⟩)
              refine ⟨?_, ?measure⟩
              (repeat apply Exists.intro)
              refine ⟨?rel, rfl⟩
              case rel =>
                refine ⟨k + 1, _, _, _, _, _, _, _, _, by omega, by go_num, rfl, rfl, rfl, rfl, rfl, rfl, rfl, rfl, ?_, fr2⟩
                show pRound _ _ (pRounds _ _ k) = _
                rw [unhide Hr, unhide ek, unhide ew]
                rfl
              case measure => simp [intOf]; omega
            · have er : PB = (S8.mk a b c d e f g h).add ⟨r0, r1, r2, r3, r4, r5, r6, r7⟩ := by
                rw [← unhide HP, pBlock, if_pos (unhide Hl), ← unhide Hr, show k = 64 by omega]
              have q0 := fr.h
              have q1 := fr.r
              have c0 : wr.cell? ⟨w.heap.size, 0, none⟩ = some (.int .u32 (a.toNat : Int)) := cell_of_row _ _ _ _ _ _ q0
              have c1 : wr.cell? ⟨w.heap.size, 1, none⟩ = some (.int .u32 (b.toNat : Int)) := cell_of_row _ _ _ _ _ _ q0
              have c2 : wr.cell? ⟨w.heap.size, 2, none⟩ = some (.int .u32 (c.toNat : Int)) := cell_of_row _ _ _ _ _ _ q0
              have c3 : wr.cell? ⟨w.heap.size, 3, none⟩ = some (.int .u32 (d.toNat : Int)) := cell_of_row _ _ _ _ _ _ q0
              have c4 : wr.cell? ⟨w.heap.size, 4, none⟩ = some (.int .u32 (e.toNat : Int)) := cell_of_row _ _ _ _ _ _ q0
              have c5 : wr.cell? ⟨w.heap.size, 5, none⟩ = some (.int .u32 (f.toNat : Int)) := cell_of_row _ _ _ _ _ _ q0
              have c6 : wr.cell? ⟨w.heap.size, 6, none⟩ = some (.int .u32 (g.toNat : Int)) := cell_of_row _ _ _ _ _ _ q0
              have c7 : wr.cell? ⟨w.heap.size, 7, none⟩ = some (.int .u32 (h.toNat : Int)) := cell_of_row _ _ _ _ _ _ q0
              have hd3 : decide ((k : Int) < 64) = false := by simp; omega
              have am := a_mod
              have aw := a_wrap
              have hi : (Tryd.prog.info? 100).map (·.size) = some ((S8.mk a b c d e f g h).add ⟨r0, r1, r2, r3, r4, r5, r6, r7⟩).cells.size := by show _ = some 8; kernel_rfl
              have ho1 : ((S8.mk a b c d e f g h).add ⟨r0, r1, r2, r3, r4, r5, r6, r7⟩).cells.all (·.oneCell') = true := wc_oneCell _
              have Her := hide er
              have Q0 := hide q0
              clear er q0
              go_wp2_with (refine wpList_store_row rfl 100 (.tmp 4) (.tmp 230) rfl (w.heap.size + 1) ((S8.mk a b c d e f g h).add ⟨r0, r1, r2, r3, r4, r5, r6, r7⟩).cells rfl rfl 100 _ q1 hi rfl ho1 ?_)
              exact bodyPost_ret (results_cell_row rfl _ _ (w.heap.size + 1) _ _ _ _ rfl (setRow_heap _ _ _ _ _ _ q1) Tryd.underlying100 rfl hi) rfl ⟨by rw [unhide Her], below_setRow fr.below (by simp) _⟩

set_option maxHeartbeats 400000 in
set_option maxRecDepth 100000 in
theorem rblock_other (st : S8) (gb off cap n : Nat) (hn : n ≠ 64) (hm : n ≤ maxLen) (w : World) :
    Calls Tryd.prog 65 #[.agg st.cells, .slice (some ⟨gb, off, none⟩) n cap] w fun e w' => e = .returned (.agg st.cells) ∧ Below w.heap.size w w' := by
  have hne : ((n : Int) != 64) = true := by simp; omega
  obtain ⟨a, b, c, d, e, f, g, h⟩ := st
  simp only [S8.cells, S8.list, wc, List.map]
  go_enter Tryd.func65, Tryd.ntmps65
  go_wp2
  exact bodyPost_ret (results_cell_row rfl _ _ (w.heap.size + 1) _ _ _ _ rfl (heap_alloc2_new _ _ _) Tryd.underlying100 rfl (by kernel_rfl)) rfl ⟨rfl, ((Below.refl _ _).alloc (Nat.le_refl _) _).alloc (by simp) _⟩
/-- Whatever the length. -/
theorem rblock_any (st : S8) (gb off cap : Nat) (l : List UInt8) (hc : l.length ≤ cap) (hm : l.length ≤ maxLen) (w : World) (hg : gb < w.heap.size) (hs : Bytes w gb off l) :
    Calls Tryd.prog 65 #[.agg st.cells, .slice (some ⟨gb, off, none⟩) l.length cap] w fun e w' => e = .returned (.agg (pBlock st l).cells) ∧ Below w.heap.size w w' := by
  by_cases h : l.length = 64
  · have := rblock_calls st gb off cap l h (by omega) w hg hs
    rw [h]; exact this
  · have := rblock_other st gb off cap l.length h hm w
    rw [pBlock, if_neg h]; exact this
theorem block_any (st : S8) (l : List UInt8) (hm : l.length ≤ maxLen) (w : World) (tabs : Tabs w) :
    Calls Tryd.prog 71 #[.agg st.cells, .string ⟨l.toArray⟩] w fun e w' => e = .returned (.agg (pBlock st l).cells) ∧ Below w.heap.size w w' := by
  have hz : (⟨l.toArray⟩ : ByteArray).size = l.length := by simp [ByteArray.size]
  by_cases h : l.length = 64
  · have := block_calls st ⟨l.toArray⟩ (by rw [hz]; exact h) w tabs
    simpa using this
  · have := block_other st ⟨l.toArray⟩ (by rw [hz]; exact h) (by rw [hz]; exact hm) w
    rw [pBlock, if_neg h]; exact this
end Go.Proofs.YtonmccmeljeopaaDoor

namespace Go.Proofs.YtonmccmeljeopaaDoor
open Go.RowKit
set_option linter.unusedSimpArgs false
set_option linter.unusedVariables false

set_option maxHeartbeats 400000 in
set_option maxRecDepth 100000 in
theorem after_calls (st : S8) (l : List UInt8) (gb off cap : Nat) (hl : l.length ≤ cap) (hc : cap ≤ maxLen) (w : World) (hg : gb < w.heap.size) (hs : Bytes w gb off l) :
    Calls Tryd.prog 57 #[.agg st.cells, .slice (some ⟨gb, off, none⟩) l.length cap] w fun e w' => ∃ off' cap', e = .returned (.tuple #[.agg (pThrough st l).1.cells, .slice (some ⟨gb, off', none⟩) (pThrough st l).2.length cap']) ∧ (pThrough st l).2.length ≤ cap' ∧ cap' ≤ cap ∧ Bytes w' gb off' (pThrough st l).2 ∧ Below w.heap.size w w' := by
  obtain ⟨a, b, c, d, e, f, g, h⟩ := st
  unfold maxLen at hc
  generalize hT : pThrough ⟨a, b, c, d, e, f, g, h⟩ l = T
  simp only [S8.cells, S8.list, wc, List.map]
  have HT := hide hT
  clear hT
  go_enter Tryd.func57, Tryd.ntmps57
  go_wp2
  go_loopw [1] (fun t wr => ∃ (m : List UInt8) (s : S8) (off' cap' : Nat), t = .slice (some ⟨gb, off', none⟩) m.length cap' ∧ m.length ≤ cap' ∧ cap' ≤ cap ∧ m.length ≤ l.length ∧ Bytes w gb off' m ∧ Hid (pThrough s m = T) ∧ Below w.heap.size w wr ∧ w.heap.size + 1 + 1 ≤ wr.heap.size ∧ wr.heap[w.heap.size]? = some (.cells s.cells 100 (0, 0)) ∧ wr.heap[w.heap.size + 1]? = some (.cells (wc (List.replicate 8 0)) 100 (0, 0))) (fun t _ => match t with | .slice _ n _ => n | _ => 0)
  case atStart => exact ⟨l, ⟨a, b, c, d, e, f, g, h⟩, off, cap, rfl, hl, Nat.le_refl _, Nat.le_refl _, hs, HT, bel2 _ _ _, by simp, (al2 _ _ _).1, (al2 _ _ _).2⟩
  case round =>
    obtain ⟨m, s, off', cap', rfl, hmc, hcc, hm, hsm, hS, hb, hB, q0, q1⟩ := hrel
    by_cases hlt : 64 ≤ m.length
    · have hge : decide ((64 : Int) ≤ ((m.length : Nat) : Int)) = true := by simp; omega
      obtain ⟨s0, s1, s2, s3, s4, s5, s6, s7⟩ := s
      have c0 : wr.cell? ⟨w.heap.size, 0, none⟩ = some (.int .u32 (s0.toNat : Int)) := cell_of_row _ _ _ _ _ _ q0
      have c1 : wr.cell? ⟨w.heap.size, 1, none⟩ = some (.int .u32 (s1.toNat : Int)) := cell_of_row _ _ _ _ _ _ q0
      have c2 : wr.cell? ⟨w.heap.size, 2, none⟩ = some (.int .u32 (s2.toNat : Int)) := cell_of_row _ _ _ _ _ _ q0
      have c3 : wr.cell? ⟨w.heap.size, 3, none⟩ = some (.int .u32 (s3.toNat : Int)) := cell_of_row _ _ _ _ _ _ q0
      have c4 : wr.cell? ⟨w.heap.size, 4, none⟩ = some (.int .u32 (s4.toNat : Int)) := cell_of_row _ _ _ _ _ _ q0
      have c5 : wr.cell? ⟨w.heap.size, 5, none⟩ = some (.int .u32 (s5.toNat : Int)) := cell_of_row _ _ _ _ _ _ q0
      have c6 : wr.cell? ⟨w.heap.size, 6, none⟩ = some (.int .u32 (s6.toNat : Int)) := cell_of_row _ _ _ _ _ _ q0
      have c7 : wr.cell? ⟨w.heap.size, 7, none⟩ = some (.int .u32 (s7.toNat : Int)) := cell_of_row _ _ _ _ _ _ q0
      have b64 : (64 : Int) ≤ (m.length : Int) := by omega
      have d64 : (64 : Int) ≤ (cap' : Int) := by omega
      have d64' : 64 ≤ cap' := by omega
      go_wp2
      refine wp_region_still_tail 3 mixed (by kernel_rfl) ?_
      simp only [List.take_succ_cons, List.take_zero, List.drop_succ_cons, List.drop_zero]
      iterate 3 still_step
      refine wpStill_nil ?_
      have q0d : wr.drew.heap[w.heap.size]? = some (.cells (S8.mk s0 s1 s2 s3 s4 s5 s6 s7).cells 100 (0, 0)) := q0
      show wpList _ _ _ _ _ wr.drew
      go_wp2_with fail
      refine (rblock_calls ⟨s0, s1, s2, s3, s4, s5, s6, s7⟩ gb off' cap' (m.take 64) (by simp; omega) d64' _ (by show gb < wr.heap.size; omega) ((hsm.below hb.drew hg).take 64)).mono ?_
      rintro en w1 ⟨rfl, hb1⟩
      have q0' : w1.heap[w.heap.size]? = some (.cells (S8.mk s0 s1 s2 s3 s4 s5 s6 s7).cells 100 (0, 0)) := Below.at hb1 (by show w.heap.size < wr.heap.size; omega) q0
      have q1' : w1.heap[w.heap.size + 1]? = some (.cells (wc (List.replicate 8 0)) 100 (0, 0)) := Below.at hb1 (by show w.heap.size + 1 < wr.heap.size; omega) q1
      generalize hpb : pBlock ⟨s0, s1, s2, s3, s4, s5, s6, s7⟩ (m.take 64) = pb
      have hib : (Tryd.prog.info? 100).map (·.size) = some pb.cells.size := by show _ = some 8; kernel_rfl
      have ho1 : pb.cells.all (·.oneCell') = true := wc_oneCell _
      have Hpb := hide hpb
      clear hpb
      have z1 := hb1.size
      go_wp2_with (refine wpList_store_row rfl 100 (.tmp 2) (.tmp 12) rfl w.heap.size _ rfl rfl 100 _ q0' hib rfl ho1 ?_)
      go_roundw
      case rel =>
        refine ⟨m.drop 64, pb, if cap' = 64 then off' else off' + 64, cap' - 64, by by_cases hz : cap' = 64 <;> simp [hz], by simp; omega, by omega, by simp; omega, ?bytes, ?_, below_setRow ((hb.drew).trans (hb1.mono (by show w.heap.size ≤ wr.heap.size; omega))) (Nat.le_refl _) _, ?_, setRow_heap _ _ _ _ _ _ q0', ?_⟩
        case bytes =>
          by_cases hz : cap' = 64
          · rw [if_pos hz, List.drop_eq_nil_of_le (by omega)]; intro j hj; cases hj
          · rw [if_neg hz]; exact hsm.drop 64
        · have h1 := unhide hS
          rw [pThrough_step _ _ hlt] at h1
          have h2 := unhide Hpb
          rw [h2] at h1
          exact hide h1
        · rw [setRow_size]; have : wr.drew.heap.size = wr.heap.size := rfl; omega
        · rw [setRow_other _ _ _ _ (by omega)]; exact q1'
      case measure => simp; omega
    · have hge : decide ((64 : Int) ≤ ((m.length : Nat) : Int)) = false := by simp; omega
      have hi : (Tryd.prog.info? 100).map (·.size) = some s.cells.size := by show _ = some 8; kernel_rfl
      have ho1 : s.cells.all (·.oneCell') = true := wc_oneCell _
      rw [pThrough_end _ _ (by omega)] at hS
      go_wp2_with (first
        | (refine wpList_load_row rfl 100 (.tmp 2) rfl w.heap.size rfl 100 _ (0, 0) _ q0 Tryd.underlying100 rfl hi ?_)
        | (refine wpList_store_row rfl 100 (.tmp 4) (.tmp 15) rfl (w.heap.size + 1) _ rfl rfl 100 _ q1 hi rfl ho1 ?_))
      exact bodyPost_ret (results_row_tmp rfl _ _ (w.heap.size + 1) _ _ _ _ rfl (setRow_heap _ _ _ _ _ _ q1) Tryd.underlying100 rfl hi) rfl ⟨off', cap', by rw [← unhide hS]; rfl, by rw [← unhide hS]; exact hmc, hcc, by rw [← unhide hS]; exact hsm.below (below_setRow hb (by simp) _) hg, below_setRow hb (by simp) _⟩
end Go.Proofs.YtonmccmeljeopaaDoor

namespace Go.Proofs.YtonmccmeljeopaaDoor
open Go.RowKit
set_option linter.unusedSimpArgs false
set_option linter.unusedVariables false

/-- A slice of bytes that the call owns. -/
def Buf (W : World) (B : Nat) (l : List UInt8) (v : Value) (w : World) : Prop := Lib.OwnBuf B 5 v l.length (Lib.byteCells l) W w
theorem Buf.form {W w : World} {B : Nat} {l : List UInt8} {v : Value} (h : Buf W B l v w) (hl : l ≠ []) :
    ∃ g cap, v = .slice (some ⟨g, 0, none⟩) l.length cap ∧ l.length ≤ cap ∧ cap ≤ maxLen ∧ B ≤ g ∧ g < w.heap.size ∧ Bytes w g 0 l := by
  obtain ⟨h1, h2⟩ := h.1
  rcases h2 with ⟨_, h0⟩ | ⟨g, cap, cur, fz, rfl, hB, hg, _, hc, hm, hs, ht⟩
  · exact absurd (List.eq_nil_of_length_eq_zero h0) hl
  · refine ⟨g, cap, rfl, hc, hm, hB, (h.1.lt g rfl).2, fun j hj => ?_⟩
    have := h.1.cells (g := g) rfl j (.int .u8 ((l.getD j 0).toNat : Int)) (by simp [Lib.byteCells, hj])
    rw [show (⟨g, 0, none⟩ : Addr).add j = ⟨g, 0 + j, none⟩ by unfold Addr.add; split <;> simp_all] at this
    exact this
theorem byteInfo : ∃ i, Tryd.prog.info? 5 = some i ∧ i.zero = some (.int .u8 0) ∧ i.size = 1 ∧ i.bytes = 1 := by
  have e : (Tryd.prog.info? 5).map (fun i => (i.zero, i.size, i.bytes)) = some (some (.int .u8 0), 1, 1) := by kernel_rfl
  cases hq : Tryd.prog.info? 5 with
  | none => rw [hq] at e; cases e
  | some i =>
    rw [hq] at e
    simp only [Option.map_some, Option.some.injEq, Prod.mk.injEq] at e
    exact ⟨i, rfl, e.1, e.2.1, e.2.2⟩
theorem wpList_append_b {ops : Array Oper} {rest : List Oper} {o : Oper} {a : Act} {Q : Exit → Act → World → Prop} (hgd : o.guard = none) (s x : Operand)
    (ho : o.op = .call { callee := .builtin .append, args := #[s, x], argTypes := #[71, 71] })
    (W : World) (B : Nat) (l : List UInt8) (v : Value) (hs : a.eval s = v) (w0 : World) (c : Int) (b : UInt8) (hc : c = (b.toNat : Int)) (hb : Buf W B l v w0)
    (hx : a.eval x = .slice (some ⟨w0.heap.size, 0, none⟩) 1 1) (hlen : l.length + 1 ≤ 140737488355328)
    (h : ∀ g cap w', Buf W B (l ++ [b]) (.slice (some ⟨g, 0, none⟩) (l.length + 1) cap) w' → wpList Tryd.prog ops Q rest (a.put o.dst (.slice (some ⟨g, 0, none⟩) (l.length + 1) cap)) w') : wpList Tryd.prog ops Q (o :: rest) a (w0.alloc (.cells #[.int .u8 c] 5)) := by
  obtain ⟨i, hi, hz, h1, h2⟩ := byteInfo
  refine Lib.wpList_append_byte hgd s x 71 ho B 5 i Tryd.underlying71 hi hz h1 h2 v l.length _ hs W w0 c hb hx hlen ?_
  intro v' w' hb'
  have hb2 : Buf W B (l ++ [b]) v' w' := by
    subst hc
    unfold Buf
    rw [List.length_append]
    simpa [Lib.byteCells] using hb'
  obtain ⟨g, cap, rfl, _⟩ := hb2.form (by simp)
  rw [List.length_append] at hb2 ⊢
  exact h g cap w' hb2
theorem wpList_append_l {ops : Array Oper} {rest : List Oper} {o : Oper} {a : Act} {Q : Exit → Act → World → Prop} (hgd : o.guard = none) (s x : Operand)
    (ho : o.op = .call { callee := .builtin .append, args := #[s, x], argTypes := #[71, 71] })
    (W : World) (B : Nat) (hs : a.eval s = .slice none 0 0) (w0 : World) (m : List UInt8) (g off cap : Nat) (hb : Below B W w0) (hB : B ≤ w0.heap.size)
    (hx : a.eval x = .slice (some ⟨g, off, none⟩) m.length cap) (hm : Bytes w0 g off m) (hlen : m.length ≤ 140737488355328)
    (h : ∀ v' w', Buf W B m v' w' → wpList Tryd.prog ops Q rest (a.put o.dst v') w') : wpList Tryd.prog ops Q (o :: rest) a w0 := by
  obtain ⟨i, hi, hz, h1, h2⟩ := byteInfo
  have h0 : Lib.OwnBuf B 5 (.slice none 0 0) 0 [] W w0 := ⟨World.ownsRowF_nil _ _ _ _, hb, hB⟩
  refine wpList_append_ownF _ hgd s x 71 ho B 5 i (.int .u8 0) 1 1 Tryd.underlying71 hi hz h1 h2 rfl (by decide) (.slice none 0 0) 0 [] hs h0.1 ⟨g, off, none⟩ m.length cap (Lib.byteCells m) hx (by simp [Lib.byteCells]) ?_ ?_ (by unfold maxLen; omega) (by omega) hB ?_
  · intro j u hj
    have hjl : j < m.length := by
      have := (List.getElem?_eq_some_iff.1 hj).1; simpa [Lib.byteCells] using this
    have hu : u = .int .u8 ((m.getD j 0).toNat : Int) := by
      simp [Lib.byteCells, hjl] at hj; simp [hjl, hj]
    rw [show (⟨g, off, none⟩ : Addr).add j = ⟨g, off + j, none⟩ by unfold Addr.add; split <;> simp_all, hu]
    exact hm j hjl
  · intro u hu
    simp [Lib.byteCells] at hu
    obtain ⟨b, _, rfl⟩ := hu; rfl
  · intro v' w' ho' hg _
    refine h v' w' ?_
    have := h0.grown ho' hg
    simpa [Buf] using this

theorem strC (m : List UInt8) : Lib.strCells (str m) = Lib.byteCells m := by simp [Lib.strCells, Lib.byteCells, str]
theorem wpList_append_2 {ops : Array Oper} {rest : List Oper} {o : Oper} {a : Act} {Q : Exit → Act → World → Prop} (hgd : o.guard = none) (s x : Operand)
    (ho : o.op = .call { callee := .builtin .append, args := #[s, x], argTypes := #[71, 71] })
    (W : World) (B : Nat) (l : List UInt8) (v : Value) (hs : a.eval s = v) (w0 : World) (c1 c2 : Int) (b1 b2 : UInt8) (hc1 : c1 = (b1.toNat : Int)) (hc2 : c2 = (b2.toNat : Int)) (hb : Buf W B l v w0)
    (hx : a.eval x = .slice (some ⟨w0.heap.size, 0, none⟩) 2 2) (hlen : l.length + 2 ≤ 140737488355328)
    (h : ∀ v' w', Buf W B (l ++ [b1, b2]) v' w' → wpList Tryd.prog ops Q rest (a.put o.dst v') w') : wpList Tryd.prog ops Q (o :: rest) a (w0.alloc (.cells #[.int .u8 c1, .int .u8 c2] 5)) := by
  obtain ⟨i, hi, hz, h1, h2⟩ := byteInfo
  have hb' := Lib.OwnBuf.alloc hb (.cells #[.int .u8 c1, .int .u8 c2] 5)
  refine wpList_append_ownF _ hgd s x 71 ho B 5 i (.int .u8 0) 1 1 Tryd.underlying71 hi hz h1 h2 rfl (by decide) v l.length (Lib.byteCells l) hs hb'.1 ⟨w0.heap.size, 0, none⟩ 2 2 [.int .u8 c1, .int .u8 c2] hx rfl ?_ ?_ (by unfold maxLen; omega) (by omega) hb'.2.2 ?_
  · intro j u hj
    match j, hj with
    | 0, hj => simp at hj; subst hj; simp [Addr.add]
    | 1, hj => simp at hj; subst hj; simp [Addr.add]
    | (j + 2), hj => simp at hj
  · intro u hu; simp at hu; rcases hu with rfl | rfl <;> rfl
  · intro v' w' ho' hg _
    refine h v' w' ?_
    have := hb'.grown ho' hg
    subst hc1 hc2
    unfold Buf
    rw [List.length_append]
    simpa [Lib.byteCells] using this
theorem wpList_append_s {ops : Array Oper} {rest : List Oper} {o : Oper} {a : Act} {Q : Exit → Act → World → Prop} {w : World} (hgd : o.guard = none) (s x : Operand)
    (ho : o.op = .call { callee := .builtin .append, args := #[s, x], argTypes := #[71, 9] })
    (W : World) (B : Nat) (l : List UInt8) (v : Value) (hs : a.eval s = v) (m : List UInt8) (hb : Buf W B l v w)
    (hx : a.eval x = .string (str m)) (hlen : l.length + m.length ≤ 140737488355328)
    (h : ∀ v' w', Buf W B (l ++ m) v' w' → wpList Tryd.prog ops Q rest (a.put o.dst v') w') : wpList Tryd.prog ops Q (o :: rest) a w := by
  obtain ⟨i, hi, hz, h1, h2⟩ := byteInfo
  refine Lib.wpList_append_text hgd s x 71 9 ho B 5 i Tryd.underlying71 Tryd.underlying9 hi hz h1 h2 v l.length (Lib.byteCells l) hs W hb (str m) hx (by rw [str_size]; exact hlen) ?_
  intro v' w' hb'
  refine h v' w' ?_
  rw [str_size, strC] at hb'
  unfold Buf
  rw [List.length_append, Lib.byteCells_append]; exact hb'
theorem conv_nil (w : World) : (convert 71 9 (.slice none 0 0)).run Tryd.prog w = .ok (.string (str [])) w := by kernel_rfl
theorem Buf.convert {W w : World} {B : Nat} {l : List UInt8} {v : Value} (h : Buf W B l v w) : (convert 71 9 v).run Tryd.prog w = .ok (.string (str l)) w := by
  obtain ⟨h1, h2⟩ := h.1
  rcases h2 with ⟨rfl, h0⟩ | ⟨g, cap, cur, fz, rfl, hB, hg, _, hc, hm, hs, ht⟩
  · have : l = [] := List.eq_nil_of_length_eq_zero h0
    subst this
    exact conv_nil w
  · refine run_convert_bytes_back (P := Tryd.prog) w 71 9 5 ⟨g, 0, none⟩ cap l Tryd.underlying71 Tryd.underlying5 Tryd.underlying9 (fun j hj => ?_)
    have := h.1.cells (g := g) rfl j (.int .u8 ((l.getD j 0).toNat : Int)) (by simp [Lib.byteCells, hj])
    rw [this]; simp [hj]
end Go.Proofs.YtonmccmeljeopaaDoor

namespace Go.Proofs.YtonmccmeljeopaaDoor
open Go.RowKit
set_option linter.unusedSimpArgs false
set_option linter.unusedVariables false

theorem flat_at (l : List (BitVec 32)) (k : Nat) : (l.flatMap wordBytes).getD k 0 = (wordBytes (l.getD (k / 4) 0)).getD (k % 4) 0 ∨ l.length ≤ k / 4 := by
  induction l generalizing k with
  | nil => right; simp
  | cons x l ih =>
    by_cases h : k < 4
    · left
      rw [List.flatMap_cons, List.getD_eq_getElem?_getD, List.getElem?_append_left (by rw [wordBytes_length]; exact h), Nat.div_eq_of_lt h, Nat.mod_eq_of_lt h, ← List.getD_eq_getElem?_getD]; rfl
    · rcases ih (k - 4) with h1 | h1
      · left
        rw [List.flatMap_cons, List.getD_eq_getElem?_getD, List.getElem?_append_right (by rw [wordBytes_length]; omega), wordBytes_length, ← List.getD_eq_getElem?_getD, h1, show (k - 4) % 4 = k % 4 by omega, show k / 4 = (k - 4) / 4 + 1 by omega]
        rfl
      · right; simp; omega
theorem noughts_test (n k : Nat) (h : k ≤ noughts n) : ((((n + 1 + k : Nat) : Int) % 64 != 56) = true ↔ k < noughts n) := by
  unfold noughts at *
  simp only [bne_iff_ne, ne_eq]
  omega
theorem pad_snoc (m : List UInt8) (k : Nat) : m ++ 128 :: List.replicate k 0 ++ [(0 : UInt8)] = m ++ 128 :: List.replicate (k + 1) 0 := by
  simp [List.replicate_succ']
set_option maxHeartbeats 2000000 in
set_option maxRecDepth 100000 in
theorem rend_calls (st : S8) (m : List UInt8) (count : BitVec 64) (gb off cap : Nat) (hl : m.length ≤ 140737488355000) (w : World) (hg : gb < w.heap.size) (hs : Bytes w gb off m) :
    Calls Tryd.prog 59 #[.agg st.cells, .slice (some ⟨gb, off, none⟩) m.length cap, .int .u64 (count.toNat : Int)] w fun e w' => e = .returned (.agg (bc (pEnd ⟨st, m, count⟩))) ∧ Below w.heap.size w w' := by
  generalize hE : pEnd ⟨st, m, count⟩ = res
  have hpl := padBytes_length m.length count
  have HE := hide hE
  have HPL := hide hpl
  obtain ⟨a, b, c, d, e, f, g, h⟩ := st
  have hargs : (S8.mk a b c d e f g h).cells = #[.int .u32 (a.toNat : Int), .int .u32 (b.toNat : Int), .int .u32 (c.toNat : Int), .int .u32 (d.toNat : Int), .int .u32 (e.toNat : Int), .int .u32 (f.toNat : Int), .int .u32 (g.toNat : Int), .int .u32 (h.toNat : Int)] := rfl
  rw [hargs]
  have q0 := (al2 w (.cells #[.int .u32 (a.toNat : Int), .int .u32 (b.toNat : Int), .int .u32 (c.toNat : Int), .int .u32 (d.toNat : Int), .int .u32 (e.toNat : Int), .int .u32 (f.toNat : Int), .int .u32 (g.toNat : Int), .int .u32 (h.toNat : Int)] 100) (.cells (bc (List.replicate 32 0)) 23)).1
  have q1 := (al2 w (.cells #[.int .u32 (a.toNat : Int), .int .u32 (b.toNat : Int), .int .u32 (c.toNat : Int), .int .u32 (d.toNat : Int), .int .u32 (e.toNat : Int), .int .u32 (f.toNat : Int), .int .u32 (g.toNat : Int), .int .u32 (h.toNat : Int)] 100) (.cells (bc (List.replicate 32 0)) 23)).2
  have hbX := bel2 w (.cells #[.int .u32 (a.toNat : Int), .int .u32 (b.toNat : Int), .int .u32 (c.toNat : Int), .int .u32 (d.toNat : Int), .int .u32 (e.toNat : Int), .int .u32 (f.toNat : Int), .int .u32 (g.toNat : Int), .int .u32 (h.toNat : Int)] 100) (.cells (bc (List.replicate 32 0)) 23)
  have hsX : ((w.alloc (.cells #[.int .u32 (a.toNat : Int), .int .u32 (b.toNat : Int), .int .u32 (c.toNat : Int), .int .u32 (d.toNat : Int), .int .u32 (e.toNat : Int), .int .u32 (f.toNat : Int), .int .u32 (g.toNat : Int), .int .u32 (h.toNat : Int)] 100)).alloc (.cells (bc (List.replicate 32 0)) 23)).heap.size = w.heap.size + 1 + 1 := by simp
  have hmX := hs.below hbX hg
  have hWb : Below (w.heap.size + 1 + 1) ((w.alloc (.cells #[.int .u32 (a.toNat : Int), .int .u32 (b.toNat : Int), .int .u32 (c.toNat : Int), .int .u32 (d.toNat : Int), .int .u32 (e.toNat : Int), .int .u32 (f.toNat : Int), .int .u32 (g.toNat : Int), .int .u32 (h.toNat : Int)] 100)).alloc (.cells (bc (List.replicate 32 0)) 23)) ((w.alloc (.cells #[.int .u32 (a.toNat : Int), .int .u32 (b.toNat : Int), .int .u32 (c.toNat : Int), .int .u32 (d.toNat : Int), .int .u32 (e.toNat : Int), .int .u32 (f.toNat : Int), .int .u32 (g.toNat : Int), .int .u32 (h.toNat : Int)] 100)).alloc (.cells (bc (List.replicate 32 0)) 23)) := Below.refl _ _
  have Q0 := hide q0
  have Q1 := hide q1
  have HBX := hide hbX
  have HSX := hide hsX
  generalize hN : noughts m.length = N at *
  have hN64 : N < 64 := by rw [← hN]; exact Nat.mod_lt _ (by decide)
  have HN := hide hN
  clear hargs hE hpl q0 q1 hbX hsX hN
  go_enter Tryd.func59, Tryd.ntmps59
  go_wp2_with (first
    | (at_builtin; refine wpList_append_l rfl (.tmp 12) (.tmp 13) rfl ((w.alloc (.cells #[.int .u32 (a.toNat : Int), .int .u32 (b.toNat : Int), .int .u32 (c.toNat : Int), .int .u32 (d.toNat : Int), .int .u32 (e.toNat : Int), .int .u32 (f.toNat : Int), .int .u32 (g.toNat : Int), .int .u32 (h.toNat : Int)] 100)).alloc (.cells (bc (List.replicate 32 0)) 23)) (w.heap.size + 1 + 1) rfl _ m gb off cap hWb (Nat.le_of_eq (unhide HSX).symm) rfl hmX (by omega) ?_; intro v1 w1 hbuf1)
    | (at_builtin; refine wpList_append_b rfl (.tmp 15) (.tmp 16) rfl ((w.alloc (.cells #[.int .u32 (a.toNat : Int), .int .u32 (b.toNat : Int), .int .u32 (c.toNat : Int), .int .u32 (d.toNat : Int), .int .u32 (e.toNat : Int), .int .u32 (f.toNat : Int), .int .u32 (g.toNat : Int), .int .u32 (h.toNat : Int)] 100)).alloc (.cells (bc (List.replicate 32 0)) 23)) (w.heap.size + 1 + 1) m v1 rfl w1 128 128 rfl hbuf1 rfl (by omega) ?_; intro g2 cap2 w2 hbuf2))
  generalize hX : ((w.alloc (.cells #[.int .u32 (a.toNat : Int), .int .u32 (b.toNat : Int), .int .u32 (c.toNat : Int), .int .u32 (d.toNat : Int), .int .u32 (e.toNat : Int), .int .u32 (f.toNat : Int), .int .u32 (g.toNat : Int), .int .u32 (h.toNat : Int)] 100)).alloc (.cells (bc (List.replicate 32 0)) 23)) = X at *
  clear hX hWb hmX hbuf1
  go_loopw [7] (fun v wr => ∃ (k g cap : Nat), k ≤ N ∧ v = .slice (some ⟨g, 0, none⟩) (m.length + 1 + k) cap ∧ Buf X (w.heap.size + 1 + 1) (m ++ 128 :: List.replicate k 0) v wr) (fun v _ => match v with | .slice _ n _ => m.length + 1 + N - n | _ => 0)
  case atStart => exact ⟨0, g2, cap2, by omega, rfl, hbuf2⟩
  case round =>
    clear hbuf2
    obtain ⟨k, g3, cap3, hk, rfl, hbuf⟩ := hrel
    have htest := noughts_test m.length k (by rw [unhide HN]; exact hk)
    rw [unhide HN] at htest
    have hlen : (m ++ 128 :: List.replicate k (0 : UInt8)).length = m.length + 1 + k := by simp; omega
    by_cases hlt : k < N
    · have hd := htest.2 hlt
      clear htest
      have Hlen := hide hlen
      generalize hn : m.length + 1 + k = n at *
      have hnb : n ≤ 140737488355200 := by omega
      have Hn := hide hn
      clear hlen hn
      go_wp2_with (at_builtin; refine wpList_append_b rfl (.tmp 22) (.tmp 23) rfl X (w.heap.size + 1 + 1) (m ++ 128 :: List.replicate k 0) _ rfl wr 0 0 rfl hbuf rfl (by rw [unhide Hlen]; omega) ?_; intro g4 cap4 w4 hbuf4)
      go_roundw
      case rel =>
        have e1 := unhide Hlen
        rw [pad_snoc, e1] at hbuf4
        have e3 : m.length + (k + 1) + 1 = m.length + 1 + (k + 1) := by omega
        have e4 : n + 1 = m.length + (k + 1) + 1 := by have := unhide Hn; omega
        refine ⟨k + 1, g4, cap4, by omega, ?_, ?_⟩
        · rw [e3]
        · rw [← e4]; exact hbuf4
      case measure =>
        have e1 := unhide Hlen
        have e2 := unhide Hn
        simp at e1 ⊢; omega
    · have hd : (((m.length + 1 + k : Nat) : Int) % 64 != 56) = false := by
        cases hq : (((m.length + 1 + k : Nat) : Int) % 64 != 56) with
        | false => rfl
        | true => exact absurd (htest.1 hq) hlt
      clear htest
      obtain rfl : k = N := by omega
      generalize hn0 : m.length + 1 + k = n0 at *
      have hn0b : n0 ≤ 140737488355200 := by omega
      generalize hL0 : m ++ 128 :: List.replicate k (0 : UInt8) = L0 at *
      have Hlen := hide hlen
      have Hn0 := hide hn0
      have HL0 := hide hL0
      have m8 := m8_wrap count
      clear hlen hn0 hL0
      go_wp2
      generalize hx : mul8 count = x
      have Hx := hide hx
      clear hx m8
      go_loopw [7, 9] (fun v i wr => ∃ (k g cap : Nat), k ≤ 8 ∧ i = .int .i64 k ∧ v = .slice (some ⟨g, 0, none⟩) (n0 + k) cap ∧ Buf X (w.heap.size + 1 + 1) (L0 ++ (be64 x).take k) v wr) (fun _ i _ => 8 - (intOf i).toNat)
      case atStart => exact ⟨0, g3, cap3, by omega, rfl, rfl, by simpa using hbuf⟩
      case round =>
        clear hbuf
        obtain ⟨k, g5, cap5, hk, rfl, rfl, hbuf⟩ := hrel
        have hLlen : (L0 ++ (be64 x).take k).length = n0 + k := by rw [List.length_append, unhide Hlen, List.length_take, be64_length]; omega
        by_cases hlt : k < 8
        · generalize hL : L0 ++ (be64 x).take k = L at *
          have HL := hide hL
          have HLlen := hide hLlen
          have hnk : n0 + k ≤ 140737488355210 := by omega
          obtain ⟨sh, hsh, es⟩ : ∃ sh : Nat, Hid (56 - 8 * k = sh) ∧ (56 : Int) - 8 * (k : Int) = (sh : Int) := ⟨_, rfl, by omega⟩
          have hs64 : sh ≤ 56 := by have := unhide hsh; omega
          have wu := wu64 (sh : Int) (by omega) (by omega)
          have hdk : decide ((k : Int) < 8) = true := by simp; omega
          clear hL hLlen
          go_wp2_with (at_builtin; refine wpList_append_b rfl (.tmp 31) (.tmp 39) rfl X (w.heap.size + 1 + 1) L _ rfl wr _ (UInt8.ofNat (x.toNat / 2 ^ sh)) (byte_mod _ _) hbuf rfl (by rw [unhide HLlen]; omega) ?_; intro g6 cap6 w6 hbuf6)
          go_roundw
          case rel =>
            have e1 := unhide HLlen
            refine ⟨k + 1, g6, cap6, by omega, by go_num, by rw [e1]; rfl, ?_⟩
            rw [take_snoc' (be64 x) k 0 (by rw [be64_length]; omega), be64_at x k hlt, unhide hsh, ← List.append_assoc, unhide HL]
            exact hbuf6
          case measure => simp [intOf]; omega
        · have hdk : decide ((k : Int) < 8) = false := by simp; omega
          have hLP : L0 ++ (be64 x).take k = m ++ padBytes m.length count := by
            rw [← unhide HL0, ← unhide Hx, padBytes, unhide HN, List.take_of_length_le (by rw [be64_length]; omega)]; simp
          rw [hLP] at hbuf hLlen
          generalize hLPg : m ++ padBytes m.length count = LP at *
          rw [← hLlen] at hbuf ⊢
          have hLb : LP.length ≤ 140737488355328 := by omega
          obtain ⟨g6, cap6, hv, h61, h62, h63, h64, h65⟩ := hbuf.form (by intro h0; rw [h0] at hLlen; simp at hLlen; omega)
          obtain ⟨rfl, rfl⟩ : g6 = g5 ∧ cap6 = cap5 := by
            simp at hv; exact ⟨hv.1.symm, hv.2.symm⟩
          have hbX := hbuf.2.1
          have hsX := unhide HSX
          have q0 := Below.at hbX (by omega) (unhide Q0)
          have q1 := Below.at hbX (by omega) (unhide Q1)
          have hbw : Below w.heap.size w wr := (unhide HBX).trans (hbX.mono (by omega))
          have hzr : w.heap.size + 1 + 1 ≤ wr.heap.size := by have := hbX.size; omega
          have HLPg := hide hLPg
          clear hbuf hv hLP hLPg hLlen hsX hbX
          have hi0 : (Tryd.prog.info? 100).map (·.size) = some (S8.mk a b c d e f g h).cells.size := by show _ = some 8; kernel_rfl
          go_wp2_with (refine wpList_load_row rfl 100 (.tmp 3) rfl w.heap.size rfl 100 (S8.mk a b c d e f g h).cells (0, 0) _ q0 Tryd.underlying100 rfl hi0 ?_)
          refine (after_calls ⟨a, b, c, d, e, f, g, h⟩ LP g6 0 cap6 h61 h62 wr h64 h65).mono ?_
          rintro en w5 ⟨off5, cap5, rfl, _, _, _, hb5⟩
          have q0' := Below.at hb5 (by omega) q0
          have q1' := Below.at hb5 (by omega) q1
          have hbw5 := hbw.trans (hb5.mono hbw.size)
          have hz5 := hb5.size
          generalize hT : pThrough ⟨a, b, c, d, e, f, g, h⟩ LP = T
          obtain ⟨T1, T2⟩ := T
          have hres : res = T1.bytes := by
            rw [← unhide HE, pEnd]; show (pThrough _ (m ++ padBytes m.length count)).1.bytes = _
            rw [unhide HLPg, hT]
          have Hres := hide hres
          have hi1 : (Tryd.prog.info? 100).map (·.size) = some T1.cells.size := by show _ = some 8; kernel_rfl
          have ho1 : T1.cells.all (·.oneCell') = true := wc_oneCell _
          clear hT hres
          go_wp2_with (refine wpList_store_row rfl 100 (.tmp 3) (.tmp 45) rfl w.heap.size _ rfl rfl 100 _ q0' hi1 rfl ho1 ?_)
          have z6 : (w5.setRow w.heap.size T1.cells).heap.size = w5.heap.size := setRow_size _ _ _
          have p0 : ((w5.setRow w.heap.size T1.cells).alloc (.cells (bc (List.replicate 32 0)) 23)).heap[w.heap.size]? = some (.cells T1.cells 100 (0, 0)) := by
            rw [Below.heap_alloc _ _ _ (by omega)]; exact setRow_heap _ _ _ _ _ _ q0'
          have p1 : ((w5.setRow w.heap.size T1.cells).alloc (.cells (bc (List.replicate 32 0)) 23)).heap[w.heap.size + 1]? = some (.cells (bc (List.replicate 32 0)) 23 (0, 0)) := by
            rw [Below.heap_alloc _ _ _ (by omega), setRow_other _ _ _ _ (by omega)]; exact q1'
          have pd : ((w5.setRow w.heap.size T1.cells).alloc (.cells (bc (List.replicate 32 0)) 23)).heap[w5.heap.size]? = some (.cells (bc (List.replicate 32 0)) 23 (0, 0)) := by
            rw [← z6]; exact al1 _ _
          have pb : Below w.heap.size w ((w5.setRow w.heap.size T1.cells).alloc (.cells (bc (List.replicate 32 0)) 23)) := (below_setRow hbw5 (Nat.le_refl _) _).alloc (by omega) _
          have hgd : w.heap.size + 1 + 1 ≤ w5.heap.size := by omega
          have hreslen : res.length = 32 := by rw [unhide Hres]; exact S8.bytes_length _
          have P0 := hide p0
          have P1 := hide p1
          have PD := hide pd
          have PB := hide pb
          have Hrl := hide hreslen
          clear p0 p1 pd pb z6 q0' q1' hbw5 hb5 hz5 hi1 ho1 hreslen
          generalize hgdg : w5.heap.size = gd at *
          clear hgdg
          go_loopw [11] (fun i wr => ∃ k : Nat, k ≤ 32 ∧ i = .int .i64 k ∧ Below w.heap.size w wr ∧ wr.heap[gd]? = some (.cells (bc (res.take k ++ List.replicate (32 - k) 0)) 23 (0, 0)) ∧ wr.heap[w.heap.size]? = some (.cells T1.cells 100 (0, 0)) ∧ wr.heap[w.heap.size + 1]? = some (.cells (bc (List.replicate 32 0)) 23 (0, 0))) (fun i _ => 32 - (intOf i).toNat)
          case atStart => exact ⟨0, by omega, rfl, unhide PB, unhide PD, unhide P0, unhide P1⟩
          case round =>
            clear P0 P1 PD PB q0 q1 hbw hzr
            obtain ⟨k, hk, rfl, hb, qd, q0, q1⟩ := hrel
            by_cases hlt : k < 32
            · obtain ⟨x, ex, cx⟩ : ∃ x : BitVec 32, Hid (T1.list.getD (k / 4) 0 = x) ∧ wr.cell? ⟨w.heap.size, k / 4, none⟩ = some (.int .u32 (x.toNat : Int)) := ⟨_, rfl, by rw [cell_of_row _ _ _ _ _ _ q0]; exact wc_at _ _ (by show _ < 8; omega)⟩
              have hz : List.replicate (32 - k) (0 : UInt8) = 0 :: List.replicate (32 - (k + 1)) 0 := by rw [show 32 - k = (32 - (k + 1)) + 1 by omega]; rfl
              rw [hz] at qd
              have hlk : (res.take k).length = k := by rw [List.length_take, unhide Hrl]; omega
              have cd : wr.cell? ⟨gd, k, none⟩ = some (.int .u8 (((res.take k ++ 0 :: List.replicate (32 - (k + 1)) 0).getD k 0).toNat : Int)) := by
                rw [cell_of_row _ _ _ _ _ _ qd]; exact bc_at _ _ (by rw [List.length_append, hlk]; simp)
              generalize hv : (res.take k ++ 0 :: List.replicate (32 - (k + 1)) 0).getD k 0 = v at cd
              have fz : wr.frozen? ⟨gd, k, none⟩ = false := frozen_of_row _ _ _ _ _ qd
              have hby : res.getD k 0 = UInt8.ofNat (x.toNat / 2 ^ (24 - 8 * (k % 4))) := by
                rw [unhide Hres, S8.bytes, (flat_at T1.list k).resolve_right (by show ¬ 8 ≤ k / 4; omega), unhide ex, wordBytes_at _ _ (Nat.mod_lt _ (by decide))]
              obtain ⟨qq, hqq, eqq⟩ : ∃ qq : Nat, Hid (k / 4 = qq) ∧ (k : Int) / 4 = (qq : Int) := ⟨_, rfl, by omega⟩
              obtain ⟨rr, hrr, err⟩ : ∃ rr : Nat, Hid (k % 4 = rr) ∧ (k : Int) % 4 = (rr : Int) := ⟨_, rfl, by omega⟩
              obtain ⟨sh, hsh, es⟩ : ∃ sh : Nat, Hid (24 - 8 * rr = sh) ∧ (24 : Int) - 8 * (rr : Int) = (sh : Int) := ⟨_, rfl, by have := unhide hrr; omega⟩
              rw [unhide hqq] at cx
              rw [unhide hrr, unhide hsh] at hby
              have bq : (0 : Int) ≤ qq ∧ (qq : Int) < 8 := by have := unhide hqq; omega
              have bk : (0 : Int) ≤ k ∧ (k : Int) < 32 := by omega
              have hs24 : sh ≤ 24 := by have := unhide hsh; omega
              have wu := wu64 (sh : Int) (by omega) (by omega)
              have hdk : decide ((k : Int) < 32) = true := by simp; omega
              have Hby := hide hby
              have Qd := hide qd
              have Q00 := hide q0
              have Q11 := hide q1
              have Hlk := hide hlk
              clear hz hv hby qd q0 q1 hlk
              go_wp2
              go_roundw
              case rel =>
                refine ⟨k + 1, by omega, by go_num, hb.setCell (by show w.heap.size ≤ gd; omega) _, ?_, ?_, ?_⟩
                · rw [byte_mod, ← unhide Hby, heap_setCell_same _ _ _ _ _ _ (unhide Qd), bc_set _ _ _ _ _ (unhide Hlk).symm, take_snoc' _ _ 0 (by rw [unhide Hrl]; omega)]
                · rw [heap_setCell_other _ _ _ _ (by show _ ≠ gd; omega)]; exact unhide Q00
                · rw [heap_setCell_other _ _ _ _ (by show _ ≠ gd; omega)]; exact unhide Q11
              case measure => simp [intOf]; omega
            · have hdk : decide ((k : Int) < 32) = false := by simp; omega
              have qd' : wr.heap[gd]? = some (.cells (bc res) 23 (0, 0)) := by
                rw [qd, show k = 32 by omega, List.take_of_length_le (by rw [unhide Hrl]; omega)]; simp
              have hil : (Tryd.prog.info? 23).map (·.size) = some (bc res).size := by rw [bc_size, unhide Hrl]; kernel_rfl
              have ho1 := bc_oneCell res
              have hsz : (bc (List.replicate 32 (0 : UInt8))).size = (bc res).size := by rw [bc_size, bc_size, unhide Hrl]; rfl
              clear qd q0
              go_wp2_with (first
                | (refine wpList_load_row rfl 23 (.tmp 10) rfl gd rfl 23 _ (0, 0) _ qd' Tryd.underlying23 rfl hil ?_)
                | (refine wpList_store_row rfl 23 (.tmp 6) (.tmp 64) rfl (w.heap.size + 1) _ rfl rfl 23 _ q1 hil hsz ho1 ?_))
              exact bodyPost_ret (results_cell_row rfl _ _ (w.heap.size + 1) _ _ _ _ rfl (setRow_heap _ _ _ _ _ _ q1) Tryd.underlying23 rfl hil) rfl ⟨rfl, below_setRow hb (by simp) _⟩
end Go.Proofs.YtonmccmeljeopaaDoor

namespace Go.Proofs.YtonmccmeljeopaaDoor
open Go.RowKit
set_option linter.unusedSimpArgs false
set_option linter.unusedVariables false

theorem pSum_one (l : List UInt8) : pEnd ⟨(pThrough pBegin.s l).1, (pThrough pBegin.s l).2, BitVec.ofNat 64 l.length⟩ = pSum [l] := by
  show _ = pEnd (pAdd pBegin l)
  simp only [pAdd, pBegin, List.nil_append, add64]
  rw [show (0 : BitVec 64) + BitVec.ofNat 64 l.length = BitVec.ofNat 64 l.length from BitVec.zero_add _]

set_option maxHeartbeats 2000000 in
set_option maxRecDepth 100000 in
theorem rsum_calls (l : List UInt8) (hl : l.length ≤ 70368744177664) (w : World) :
    Calls Tryd.prog 49 #[.string (str l)] w fun e w' => e = .returned (.agg (bc (pSum [l]))) ∧ Below w.heap.size w w' := by
  have hres := pSum_one l
  generalize hR : pSum [l] = res at *
  have hreslen : res.length = 32 := by rw [← hR]; exact pSum_length _
  have Hres := hide hres
  have Hrl := hide hreslen
  have hcv := conv_run l
  have ex : IntKind.u64.wrap (l.length : Int) = ((BitVec.ofNat 64 l.length).toNat : Int) := by rw [IntKind.wrap_u64]; simp
  generalize hcount : BitVec.ofNat 64 l.length = cnt at *
  have q0 := al1 w (.cells (bc (List.replicate 32 0)) 23)
  have hb0 := (Below.refl w.heap.size w).alloc (Nat.le_refl _) (.cells (bc (List.replicate 32 0)) 23)
  have Q0 := hide q0
  have HB0 := hide hb0
  clear hres hreslen hR q0 hb0 hcount
  go_enter Tryd.func49, Tryd.ntmps49
  go_wp2_with fail
  refine (first_calls _).mono ?_
  rintro en w1 ⟨rfl, hb1⟩
  have q1 := Below.at hb1 (by simp) (unhide Q0)
  have hbw1 := (unhide HB0).trans (hb1.mono (by simp))
  have hz1 : w.heap.size < w1.heap.size := by have := hb1.size; simp at this; omega
  clear hb1 Q0 HB0
  go_wp2_with fail
  refine (after_calls pBegin.s l w1.heap.size 0 (bcap w1 l) (bcap_ge _ _) (bcap_le _ _ (by unfold maxLen; omega)) (bworld w1 l) (by rw [bworld_size]; omega) (bworld_bytes _ _)).mono ?_
  rintro en w2 ⟨off2, cap2, rfl, hc2, _, hby2, hb2⟩
  have hbb := bworld_below l (Below.refl w1.heap.size w1) (Nat.le_refl _)
  have hbs := bworld_size w1 l
  have hb12 : Below w1.heap.size w1 w2 := hbb.trans (hb2.mono (by omega))
  have q2 := Below.at hb12 hz1 q1
  have hbw2 := hbw1.trans (hb12.mono hbw1.size)
  have hz2 : w1.heap.size < w2.heap.size := by have := hb2.size; omega
  clear hbb hbs hb12 hb2 q1 hbw1
  have hTl := pThrough_rest_le pBegin.s l
  generalize hT : pThrough pBegin.s l = T at *
  obtain ⟨T1, T2⟩ := T
  have hTl : T2.length < 64 := hTl.1
  have hi1 : (Tryd.prog.info? 100).map (·.size) = some T1.cells.size := by show _ = some 8; kernel_rfl
  have ho1 : T1.cells.all (·.oneCell') = true := wc_oneCell _
  have qz : (w2.alloc (.cells (wc (List.replicate 8 0)) 100)).heap[w2.heap.size]? = some (.cells (wc (List.replicate 8 0)) 100 (0, 0)) := al1 _ _
  have qs := setRow_heap (w2.alloc (.cells (wc (List.replicate 8 0)) 100)) w2.heap.size _ T1.cells _ _ qz
  clear hT hcv
  go_wp2_with (first
    | (refine wpList_store_row rfl 100 (.tmp 3) (.tmp 10) rfl w2.heap.size _ rfl rfl 100 _ qz hi1 rfl ho1 ?_)
    | (refine wpList_load_row rfl 100 (.tmp 3) rfl w2.heap.size rfl 100 _ (0, 0) _ qs Tryd.underlying100 rfl hi1 ?_))
  have hb3 : Below w.heap.size w ((w2.alloc (.cells (wc (List.replicate 8 0)) 100)).setRow w2.heap.size T1.cells) := below_setRow (hbw2.alloc hbw2.size _) hbw2.size _
  have hb3' : Below w2.heap.size w2 ((w2.alloc (.cells (wc (List.replicate 8 0)) 100)).setRow w2.heap.size T1.cells) := below_setRow ((Below.refl _ _).alloc (Nat.le_refl _) _) (Nat.le_refl _) _
  have hz3 : ((w2.alloc (.cells (wc (List.replicate 8 0)) 100)).setRow w2.heap.size T1.cells).heap.size = w2.heap.size + 1 := by rw [setRow_size]; simp
  refine (rend_calls T1 T2 cnt w1.heap.size off2 cap2 (by omega) _ (by rw [hz3]; omega) (hby2.below hb3' hz2)).mono ?_
  rintro en w3 ⟨rfl, hb4⟩
  have q3 := Below.at hb4 (by rw [hz3]; omega) (Below.at hb3' (by omega) q2)
  have hbw3 := hb3.trans (hb4.mono (by rw [hz3]; have := hbw2.size; omega))
  have hres := unhide Hres
  rw [hres]
  have hil : (Tryd.prog.info? 23).map (·.size) = some (bc res).size := by rw [bc_size, unhide Hrl]; kernel_rfl
  have ho2 := bc_oneCell res
  have hsz : (bc (List.replicate 32 (0 : UInt8))).size = (bc res).size := by rw [bc_size, bc_size, unhide Hrl]; rfl
  clear hres hb4 hb3 hb3' hz3 qz qs
  go_wp2_with (refine wpList_store_row rfl 23 (.tmp 2) (.tmp 17) rfl w.heap.size _ rfl rfl 23 _ q3 hil hsz ho2 ?_)
  exact bodyPost_ret (results_cell_row rfl _ _ w.heap.size _ _ _ _ rfl (setRow_heap _ _ _ _ _ _ q3) Tryd.underlying23 rfl hil) rfl ⟨rfl, below_setRow hbw3 (Nat.le_refl _) _⟩
end Go.Proofs.YtonmccmeljeopaaDoor

namespace Go.Proofs.YtonmccmeljeopaaDoor
open Go.RowKit
set_option linter.unusedSimpArgs false
set_option linter.unusedVariables false

theorem pBig_one (dom : Nat) : pBig dom 1 = [UInt8.ofNat dom] := by simp [pBig]
theorem byte_conv (w : World) (x : Nat) (h : x < 256) : (convert 71 9 (.slice (some ⟨w.heap.size, 0, none⟩) 1 1)).run Tryd.prog (w.alloc (.cells #[.int .u8 (x : Int)] 5)) = .ok (.string (str [UInt8.ofNat x])) (w.alloc (.cells #[.int .u8 (x : Int)] 5)) := by
  have hc : (w.alloc (.cells #[.int .u8 (x : Int)] 5)).cell? ⟨w.heap.size, 0, none⟩ = some (.int .u8 (x : Int)) := by go_simp
  refine run_convert_bytes_back (P := Tryd.prog) _ 71 9 5 ⟨w.heap.size, 0, none⟩ 1 [UInt8.ofNat x] Tryd.underlying71 Tryd.underlying5 Tryd.underlying9 (fun j hj => ?_)
  have : j = 0 := by simp at hj; omega
  subst this
  have e : (x : Int) = ((UInt8.ofNat x).toNat : Int) := by rw [UInt8.toNat_ofNat']; omega
  rw [e] at hc ⊢
  exact hc
set_option maxHeartbeats 2000000 in
set_option maxRecDepth 100000 in
theorem rinput_calls (dom : Nat) (hd : dom < 256) (parts : List (List UInt8)) (hp : ∀ p ∈ parts, p.length ≤ 100000000) (hn : parts.length ≤ 1000) (a : Option Addr) (cap : Nat) (w : World) (hs : StrsAt w a parts) :
    Calls Tryd.prog 48 #[.int .u8 (dom : Int), .slice a parts.length cap] w fun e w' => e = .returned (.string (str (pInput dom parts))) ∧ Below w.heap.size w w' := by
  have hb0 : ∀ k, ((parts.take k).flatMap pText4).length ≤ 200000000000 := fun k => Nat.le_trans (in_bound _ parts k hp hn) (by decide)
  have HB0 := hide hb0
  have HP := hide hp
  have HS := hide hs
  obtain ⟨R, hR⟩ : ∃ R, Hid (pInput dom parts = R) := ⟨_, hide rfl⟩
  rw [unhide hR]
  have hcv := byte_conv w dom hd
  rw [← pBig_one] at hcv
  have hbl := pBig_length dom 1
  have hbw : Below w.heap.size w (w.alloc (.cells #[.int .u8 (dom : Int)] 5)) := (Below.refl _ w).alloc (Nat.le_refl _) _
  have Hbw := hide hbw
  clear hb0 hp hs hbw
  go_enter Tryd.func48, Tryd.ntmps48
  go_wp2_with (simp only [hcv])
  go_loopw [5, 13] (fun s i wr => ∃ k : Nat, k ≤ parts.length ∧ i = .int .i64 (k : Int) ∧ s = .string (str (pBig dom 1 ++ (parts.take k).flatMap pText4)) ∧ Below w.heap.size w wr) (fun _ i _ => parts.length - (intOf i).toNat)
  case atStart => exact ⟨0, by omega, rfl, by rw [List.take_zero, List.flatMap_nil, List.append_nil], unhide Hbw⟩
  case round =>
    clear hcv
    obtain ⟨k, hk, rfl, rfl, hb⟩ := hrel
    have hz := hb.size
    by_cases hlt : k < parts.length
    · have hd1 : decide ((k : Int) < (parts.length : Int)) = true := by simp; omega
      have bk : (0 : Int) ≤ k ∧ (k : Int) < (parts.length : Int) := by omega
      obtain ⟨g, o, rfl, hg, hc⟩ : ∃ b o, a = some ⟨b, o, none⟩ ∧ b < w.heap.size ∧ ∀ j, j < parts.length → w.cell? ⟨b, o + j, none⟩ = some (.string (str (parts.getD j []))) := by
        rcases unhide HS with h | h
        · rw [h] at hlt; simp at hlt
        · exact h
      have c : wr.cell? ⟨g, o + k, none⟩ = some (.string (str (parts.getD k []))) := by rw [hb.cell (p := ⟨g, o + k, none⟩) hg]; exact hc k hlt
      have hpk : (parts.getD k []).length ≤ 100000000 := by
        rw [List.getD_eq_getElem?_getD, List.getElem?_eq_getElem hlt]; exact unhide HP _ (List.getElem_mem _)
      have hnew : pBig dom 1 ++ (parts.take (k + 1)).flatMap pText4 = (pBig dom 1 ++ (parts.take k).flatMap pText4) ++ pText4 (parts.getD k []) := by
        rw [take_snoc' parts k [] hlt, List.flatMap_append]; simp
      have hl0 := unhide HB0 k
      have hpl := pText4_length (parts.getD k [])
      have hal : (pBig dom 1 ++ (parts.take k).flatMap pText4).length ≤ 200000000001 := by rw [List.length_append]; omega
      generalize pBig dom 1 ++ (parts.take k).flatMap pText4 = acc at *
      generalize parts.getD k [] = pt at *
      have ct := fun w => rtext3_calls pt (by omega) w
      generalize pText4 pt = tx at *
      have ea := append_str acc tx
      have n1 : ¬ 9223372036854775807 < acc.length + tx.length := by omega
      have Hnew := hide hnew
      clear hc hnew hl0
      go_wp2_with fail
      refine (ct _).mono ?_
      rintro e w3 ⟨rfl, b3⟩
      have hb3 := hb.trans (b3.mono hz)
      go_wp2
      go_roundw
      case rel => exact ⟨k + 1, by omega, by go_num, by rw [unhide Hnew], hb3⟩
      case measure => simp [intOf]; omega
    · have hd1 : decide ((k : Int) < (parts.length : Int)) = false := by simp; omega
      rw [List.take_of_length_le (by omega)]
      have hR' : pBig dom 1 ++ parts.flatMap pText4 = R := unhide hR
      rw [hR']
      clear hR'
      go_wp2
      go_ret
      exact ⟨rfl, hb⟩
theorem rnoteNil_calls (s : ByteArray) (cs : Array Value) (w : World) :
    Calls Tryd.prog 50 #[.pointer none, .agg cs, .string s] w fun e w' => e = .returned (.tuple #[]) ∧ Below w.heap.size w w' := by
  go_enter Tryd.func50, Tryd.ntmps50
  go_wp2
  exact bodyPost_ret (results_none rfl _ _ _) rfl ⟨rfl, (Below.refl _ _).alloc (Nat.le_refl _) _⟩
set_option maxHeartbeats 2000000 in
set_option maxRecDepth 100000 in
theorem rofNil_calls (dom : Nat) (hd : dom < 256) (parts : List (List UInt8)) (hp : ∀ p ∈ parts, p.length ≤ 100000000) (hn : parts.length ≤ 1000) (a : Option Addr) (cap : Nat) (w : World) (hs : StrsAt w a parts) :
    Calls Tryd.prog 36 #[.pointer none, .int .u8 (dom : Int), .slice a parts.length cap] w fun e w' => e = .returned (.agg (bc (pOf dom parts))) ∧ Below w.heap.size w w' := by
  have ci := fun w hs => rinput_calls dom hd parts hp hn a cap w hs
  have hil := pInput_len dom parts hp hn
  have hol := pOf_length dom parts
  have cs := fun w => rsum_calls (pInput dom parts) (by omega) w
  have e : pSum [pInput dom parts] = pOf dom parts := rfl
  rw [e] at cs
  have hi1 := digInfo _ hol
  have hz1 := zeroSize _ hol
  have ho1 : (bc (pOf dom parts)).all (·.oneCell') = true := bc_oneCell _
  generalize pInput dom parts = I at *
  generalize pOf dom parts = D at *
  have Ci := hide ci
  have Cs := hide cs
  have HS := hide hs
  clear ci cs hs hp e
  go_enter Tryd.func36, Tryd.ntmps36
  go_wp2_with fail
  have hb0 : Below w.heap.size w (w.alloc (.cells (bc (List.replicate 32 0)) 23)) := (Below.refl _ w).alloc (Nat.le_refl _) _
  refine (unhide Ci _ ((unhide HS).below hb0 (Nat.le_refl _))).mono ?_
  rintro e w1 ⟨rfl, b1⟩
  have q0 : w1.heap[w.heap.size]? = some (.cells (bc (List.replicate 32 0)) 23 (0, 0)) := Below.at b1 (by simp) (al1 _ _)
  have hb1 : Below w.heap.size w w1 := hb0.trans (b1.mono (by simp))
  have z1 : w.heap.size < w1.heap.size := by have := b1.size; simp at this; omega
  clear hb0 b1
  go_wp2_with fail
  refine (unhide Cs _).mono ?_
  rintro e w2 ⟨rfl, b2⟩
  have q0' := Below.at b2 (by omega) q0
  have hb2 : Below w.heap.size w w2 := hb1.trans (b2.mono (by omega))
  have z2 : w.heap.size < w2.heap.size := Nat.lt_of_lt_of_le z1 b2.size
  clear hb1 b2 q0 Cs Ci
  go_wp2_with (first
    | (refine wpList_store_row rfl 23 (.tmp 8) (.tmp 13) rfl w2.heap.size _ rfl rfl 23 _ (al1 _ _) hi1 hz1 ho1 ?_)
    | (refine wpList_load_row rfl 23 (.tmp 8) rfl w2.heap.size rfl 23 _ (0, 0) _ (setRow_heap _ _ _ (bc D) _ _ (al1 w2 (.cells (bc (List.replicate 32 0)) 23))) Tryd.underlying23 rfl hi1 ?_))
  have q8 := setRow_heap _ _ _ (bc D) _ _ (al1 w2 (.cells (bc (List.replicate 32 0)) 23))
  have q9 := (setRow_other (w2.alloc (.cells (bc (List.replicate 32 0)) 23)) w2.heap.size w.heap.size (bc D) (by omega)).trans ((Below.heap_alloc w2 _ _ z2).trans q0')
  have hb3 := below_setRow (hb2.alloc (by omega) (.cells (bc (List.replicate 32 0)) 23)) (Nat.le_of_lt z2) (bc D)
  have z3 : w2.heap.size < (w2.alloc (.cells (bc (List.replicate 32 0)) 23)).heap.size := by simp
  refine (rnoteNil_calls _ _ _).mono ?_
  rintro e w4 ⟨rfl, b4⟩
  have q8' := Below.at b4 (by rw [setRow_size, World.size_alloc]; omega) q8
  have q9' := Below.at b4 (by rw [setRow_size, World.size_alloc]; omega) q9
  have hb4 := hb3.trans (b4.mono (by rw [setRow_size, World.size_alloc]; omega))
  clear q8 q9 hb3 b4
  go_wp2_with (first
    | (refine wpList_load_row rfl 23 (.tmp 8) rfl w2.heap.size rfl 23 _ (0, 0) _ q8' Tryd.underlying23 rfl hi1 ?_)
    | (refine wpList_store_row rfl 23 (.tmp 6) (.tmp 18) rfl w.heap.size _ rfl rfl 23 _ q9' hi1 hz1 ho1 ?_))
  exact bodyPost_ret (results_cell_row rfl _ _ w.heap.size _ _ _ _ rfl (setRow_heap _ _ _ _ _ _ q9') Tryd.underlying23 rfl hi1) rfl ⟨rfl, below_setRow hb4 (Nat.le_refl _) _⟩
end Go.Proofs.YtonmccmeljeopaaDoor

namespace Go.Proofs.YtonmccmeljeopaaDoor
open Go Go.RowKit

theorem wpQuiet_load_row {P : Program} {ops : Array Oper} {C : World → Prop} {Q : Act → Prop} {a : Act} {o : Oper} {rest : List Oper} (hw : Region.wanted o (yielded ops a.tmps) = true) (ty : TypeId) (x : Operand) (ho : o.op = .load ty x)
    (g : Nat) (hx : a.eval x = .pointer (some ⟨g, 0, none⟩)) (t : TypeId) (cs : Array Value) (fr : Nat × Nat) (d : TypeDesc) (hg : ∀ w, C w → w.heap[g]? = some (.cells cs t fr))
    (hu : P.underlying ty = some d) (hd : (match d with | .struct _ | .array _ _ => true | _ => false) = true) (hi : (P.info? ty).map (·.size) = some cs.size)
    (h : wpQuiet P ops C Q rest (a.put o.dst (.agg cs))) : wpQuiet P ops C Q (o :: rest) a := by
  show if _ then _ else _
  rw [if_pos hw]
  refine ⟨.agg cs, fun w hC => ?_, h⟩
  have hl := run_loadVar_row w g t ty cs fr d (hg w hC) hu hd hi
  unfold Oper.quietAt execOp
  simp only [ho, hx, Instr.loadAt, Instr.sureAddr, Sem.run_bind, Sem.run_pure, Result.andThen_ok, hl]
  exact ⟨rfl, rfl⟩
end Go.Proofs.YtonmccmeljeopaaDoor

namespace Go.Proofs.YtonmccmeljeopaaDoor
open Go Go.RowKit
section
variable {P : Program} {ops : Array Oper} {md : Region.Mode} {C : World → Prop}

/-- Each of those from c on of the first n but the last is waited for by a later one of them; all behind them wait for the last, or for one behind them. -/
def headB (md : Region.Mode) (ops : Array Oper) (c n : Nat) : Bool :=
  decide (c < n) && ((List.range (n - 1)).all fun i => decide (i < c) || (List.range n).any fun j => decide (i < j) && Region.waitsFor md ops j i) &&
  ((List.range ops.size).all fun t => decide (t < n) || Region.waitsFor md ops t (n - 1) || (List.range t).any fun j => decide (n ≤ j) && Region.waitsFor md ops t j)

theorem last_open {c n : Nat} {listed : Array Bool} (h : headB md ops c n = true) (hn : n ≤ ops.size) (inv : HeadInv md ops n listed) :
    ∀ (d i : Nat), n - i = d → c ≤ i → i < n → listed.getD i true = false → listed.getD (n - 1) true = false := by
  intro d
  induction d using Nat.strongRecOn with
  | _ d ih =>
    intro i hd hci hi hun
    by_cases hl : i = n - 1
    · rw [← hl]; exact hun
    · simp only [headB, Bool.and_eq_true] at h
      have h1 := List.all_eq_true.1 h.1.2 i (List.mem_range.2 (by omega))
      simp only [Bool.or_eq_true, decide_eq_true_eq] at h1
      replace h1 := h1.resolve_left (by omega)
      obtain ⟨j, hj, hj2⟩ := List.any_eq_true.1 h1
      simp only [Bool.and_eq_true, decide_eq_true_eq] at hj2
      have hjn := List.mem_range.1 hj
      obtain ⟨oj, hoj, e, he, hb, hon⟩ := Region.waitsFor_spec hj2.2
      cases hlj : listed.getD j false with
      | true =>
        have h2 := inv.closed j oj hoj hlj e he hb
        rw [hon, getD_both hun] at h2
        cases h2
      | false =>
        exact ih (n - j) (by omega) j rfl (by omega) hjn (getD_in (by rw [inv.size]; omega) hlj)
theorem tail_open {c n : Nat} {listed : Array Bool} (h : headB md ops c n = true) (hn : n ≤ ops.size) (inv : HeadInv md ops n listed) (i : Nat) (hci : c ≤ i) (hi : i < n) (hun : listed.getD i true = false) (t : Nat) (ht : n ≤ t) :
    t ∉ Region.ready md ops listed := by
  intro hr
  have hlast := last_open h hn inv _ i rfl hci hi hun
  obtain ⟨_, ot, hot, hall⟩ := mem_ready.1 hr
  have htlt : t < ops.size := (Array.getElem?_eq_some_iff.1 hot).1
  simp only [headB, Bool.and_eq_true] at h
  have h1 := List.all_eq_true.1 h.2 t (List.mem_range.2 htlt)
  simp only [Bool.or_eq_true, decide_eq_true_eq] at h1
  rcases h1 with (h1 | h1) | h1
  · omega
  · obtain ⟨o', ho', e, he, hb, hon⟩ := Region.waitsFor_spec h1
    have : o' = ot := Option.some.inj (ho'.symm.trans hot)
    subst this
    have h2 := hall e he hb
    rw [hon, getD_both hlast] at h2
    cases h2
  · obtain ⟨j, hj, hj2⟩ := List.any_eq_true.1 h1
    simp only [Bool.and_eq_true, decide_eq_true_eq] at hj2
    obtain ⟨o', ho', e, he, hb, hon⟩ := Region.waitsFor_spec hj2.2
    have : o' = ot := Option.some.inj (ho'.symm.trans hot)
    subst this
    have h2 := hall e he hb
    have hjt := List.mem_range.1 hj
    rw [hon, getD_both (inv.tail j hj2.1 (by omega))] at h2
    cases h2
theorem headQ_first2 {c n i : Nat} {oi : Oper} {v : Value} {L : Array Bool → Act → Prop} (hi : ops[i]? = some oi) (hsel : ∀ (j : Nat) (o : Oper) cs b, ops[j]? = some o → o.op ≠ .select cs b)
    (hB : headB md ops c n = true) (hn : n ≤ ops.size) (hci : c ≤ i) (hin : i < n)
    (hend : ∀ listed a, L listed a → ∀ j ∈ Region.ready md ops listed, n ≤ j) (f : Nat) :
    ∀ (listed : Array Bool) (a : Act), HeadInv md ops n listed →
      (∀ j oj, ops[j]? = some oj → j ≠ i → listed.getD j true = false → (∀ e ∈ oj.after, Region.binds md e = true → e.on ≠ i) → oi.apart ops oj = true) →
      i ∈ Region.ready md ops listed → YieldsIn P ops C oi v a →
      headQ P md ops C n L f (listed.setIfInBounds i true) (a.put oi.dst v) → headQ P md ops C n L (f + 1) listed a := by
  induction f with
  | zero =>
    intro listed a inv _ hr hy H
    refine ⟨fun h => (by rw [h] at hr; cases hr), fun j hj => ?_⟩
    have hjn : j < n := Nat.lt_of_not_le fun h => tail_open hB hn inv i hci hin (mem_ready.1 hr).1 j h hj
    refine ⟨hjn, ?_⟩
    by_cases e : j = i
    · subst e; exact hy.qOp hi H
    · exact absurd (hend _ _ H j (ready_mono hj e)) (by omega)
  | succ f ih =>
    intro listed a inv apart hr hy H
    refine ⟨fun h => (by rw [h] at hr; cases hr), fun j hj => ?_⟩
    have hjn : j < n := Nat.lt_of_not_le fun h => tail_open hB hn inv i hci hin (mem_ready.1 hr).1 j h hj
    refine ⟨hjn, ?_⟩
    by_cases e : j = i
    · subst e; exact hy.qOp hi H
    · obtain ⟨hun, oj, hoj, hall⟩ := mem_ready.1 hj
      have free : ∀ e ∈ oj.after, Region.binds md e = true → e.on ≠ i := fun e he hb heq => by
        have h1 := hall e he hb
        rw [heq, getD_both (mem_ready.1 hr).1] at h1
        cases h1
      have step := qOp_put hoj (apart j oj hoj e hun free) (fun cs b => hsel i oi cs b hi) (fun cs b => hsel j oj cs b hoj) hy (H.2 j (ready_mono hj e)).2
      refine qOp_mono (fun a' h3 => ih (listed.setIfInBounds j true) a' (inv.set hj hjn) (fun k ok hk hki hk2 hno => apart k ok hk hki ?_ hno) (ready_mono hr (Ne.symm e)) h3.1 ?_) step
      · by_cases hjk : j = k
        · subst hjk; exact hun
        · rw [getD_set_ne true hjk] at hk2; exact hk2
      · rw [Array.setIfInBounds_comm _ _ e]; exact h3.2

/-- The first so many taken in the text's order: each may come up, and is free; then only what lies behind them may. -/
def lexFirst (md : Region.Mode) (ops : Array Oper) (n : Nat) : Nat → Nat → Array Bool → Bool
  | 0, _, listed => (Region.ready md ops listed).all fun j => decide (n ≤ j)
  | f + 1, k, listed => (Region.ready md ops listed).contains k && Region.free md ops listed k && lexFirst md ops n f (k + 1) (listed.setIfInBounds k true)
def marks : Nat → Nat → Array Bool → Array Bool
  | 0, _, listed => listed
  | f + 1, k, listed => marks f (k + 1) (listed.setIfInBounds k true)
theorem headQ_lex2 {c n : Nat} {R : Act → Prop} (hsel : Region.noSelect ops = true) (hB : headB md ops c n = true) (hn : n ≤ ops.size) :
    ∀ (l : List Oper) (k : Nat) (listed : Array Bool) (a : Act), c ≤ k → (∀ j, j < l.length → l[j]? = ops[k + j]?) → k + l.length = n → HeadInv md ops n listed →
    lexFirst md ops n l.length k listed = true → wpQuiet P ops C R l a →
    headQ P md ops C n (fun listed' a' => (listed' = marks l.length k listed ∧ ∀ j ∈ Region.ready md ops listed', n ≤ j) ∧ R a') l.length listed a
  | [], k, listed, a, _, _, hk, _, hL, h => by
    refine ⟨⟨rfl, fun j hj => ?_⟩, h⟩
    have := List.all_eq_true.1 hL j hj
    simpa using this
  | o :: l, k, listed, a, hck, hl, hk, inv, hL, h => by
    have h0 : ops[k]? = some o := by simpa using (hl 0 (by simp)).symm
    simp only [List.length_cons, lexFirst, Bool.and_eq_true] at hL
    obtain ⟨⟨hr, hf⟩, hL'⟩ := hL
    have hkn : k < n := by simp only [List.length_cons] at hk; omega
    have hr' : k ∈ Region.ready md ops listed := by simpa using hr
    obtain ⟨v, hy, hK⟩ := yieldsIn_of_qOp (C := C) (K := wpQuiet P ops C R l) h0 (by unfold qOp; simp only [h0]; exact h)
    refine headQ_first2 h0 (Region.noSelect_spec hsel) hB hn hck hkn (fun _ _ hL => hL.1.2) l.length listed a inv (Region.free_spec h0 hf) hr' hy ?_
    exact headQ_lex2 hsel hB hn l (k + 1) _ _ (by omega) (fun j hj => by have := hl (j + 1) (by simp; omega); simpa [Nat.add_assoc, Nat.add_comm 1 j] using this) (by simp only [List.length_cons] at hk; omega) (inv.set hr' hkn) hL' hK
/-- The first so many may come up one behind the other. -/
def lexPre (md : Region.Mode) (ops : Array Oper) : Nat → Nat → Array Bool → Bool
  | 0, _, _ => true
  | f + 1, k, listed => (Region.ready md ops listed).contains k && lexPre md ops f (k + 1) (listed.setIfInBounds k true)
theorem pre_inv {n : Nat} : ∀ (f k : Nat) (listed : Array Bool), k + f ≤ n → HeadInv md ops n listed → lexPre md ops f k listed = true → HeadInv md ops n (marks f k listed)
  | 0, _, _, _, inv, _ => inv
  | f + 1, k, listed, hk, inv, h => by
    simp only [lexPre, Bool.and_eq_true] at h
    exact pre_inv f (k + 1) _ (by omega) (inv.set (by simpa using h.1) (by omega)) h.2
end
/-- The check of a region whose first c have come up, and whose next go first. -/
def firstB (ops : Array Oper) (c n : Nat) : Bool :=
  Region.noSelect ops && decide (n ≤ ops.size) && headB .any ops c n && lexPre .any ops c 0 (Array.replicate ops.size false) && lexFirst .any ops n (n - c) c (marks c 0 (Array.replicate ops.size false))
theorem marks_add : ∀ (f g k : Nat) (listed : Array Bool), marks g (k + f) (marks f k listed) = marks (f + g) k listed
  | 0, g, k, listed => by simp [marks]
  | f + 1, g, k, listed => by
    rw [show f + 1 + g = (f + g) + 1 by omega]
    show marks g (k + (f + 1)) (marks f (k + 1) _) = marks (f + g) (k + 1) _
    rw [← marks_add f g (k + 1), show k + (f + 1) = k + 1 + f by omega]
/-- OPERATIONS IN WHATEVER ORDER: the first c have come up; those up to n quiet, walked in the text's order; what is left in whatever order, from whatever world in which all that lay there lies as it lay. -/
theorem wpAny_below_head {P : Program} {Q : Exit → Act → World → Prop} {a : Act} {w : World} {l : List Oper} (c n : Nat) (hB : firstB l.toArray c n = true)
    (h : wpQuiet P l.toArray (fun w' => ∃ p : Regrown, w' = Sort.grow (redrawn w p.d) p.os) (fun a' => ∀ w', Below w.heap.size w w' → wpAny P .any l.toArray Q (l.length - n) (marks n 0 (Array.replicate l.length false)) a' w') ((l.take n).drop c) a) :
    wpAny P .any l.toArray Q (l.length - c) (marks c 0 (Array.replicate l.length false)) a w := by
  simp only [firstB, Bool.and_eq_true, decide_eq_true_eq] at hB
  obtain ⟨⟨⟨⟨hsel, hn⟩, hh⟩, hpre⟩, hlex⟩ := hB
  have hcn : c < n := by simp only [headB, Bool.and_eq_true, decide_eq_true_eq] at hh; exact hh.1.1
  have hn' : n ≤ l.length := by simpa using hn
  have htl : ((l.take n).drop c).length = n - c := by simp; omega
  have inv0 : HeadInv .any l.toArray n (Array.replicate l.toArray.size false) :=
    ⟨by simp, fun j oj _ hl => (by rw [getD_replicate_false] at hl; cases hl), fun t _ ht => getD_in (by simpa using ht) (getD_replicate_false _ _)⟩
  have inv := pre_inv c 0 _ (by omega) inv0 hpre
  have H := headQ_lex2 (C := fun w' => ∃ p : Regrown, w' = Sort.grow (redrawn w p.d) p.os) (md := .any) hsel hh hn ((l.take n).drop c) c _ a (Nat.le_refl _) (fun j hj => by
    have hj' : c + j < n := by rw [htl] at hj; omega
    simp [List.getElem?_drop, hj']) (by rw [htl]; omega) inv (by rw [htl]; exact hlex) h
  have fin := any_of_headQ (Q := Q) (g := l.toArray.size - n) (fun listed a' w' hw' hL => by
    obtain ⟨⟨rfl, _⟩, hR⟩ := hL
    obtain ⟨p, rfl⟩ := hw'
    have := hR _ (below_regrown w p.d p.os)
    have e := marks_add c (n - c) 0 (Array.replicate l.toArray.size false)
    rw [Nat.zero_add, show c + (n - c) = n by omega] at e
    rw [htl, e]
    simpa using this) _ _ _ w ⟨⟨w.drawn, #[]⟩, by rw [Sort.grow_empty]; rfl⟩ H
  rw [htl, show n - c + (l.toArray.size - n) = l.length - c by simp; omega] at fin
  simpa using fin
theorem wpQuiet_mono {P : Program} {ops : Array Oper} {C : World → Prop} {R R' : Act → Prop} (hR : ∀ a, R a → R' a) : ∀ (l : List Oper) (a : Act), wpQuiet P ops C R l a → wpQuiet P ops C R' l a
  | [], a, h => hR a h
  | o :: l, a, h => by
    unfold wpQuiet at h ⊢
    split
    · rename_i hw
      rw [if_pos hw] at h
      exact Oper.quiet_mono (fun a' h' => wpQuiet_mono hR l a' h') h
    · rename_i hw
      rw [if_neg hw] at h
      exact wpQuiet_mono hR l _ h
/-- A REGION THAT DRAWS: the first n operations quiet, walked in the text's order; what is left in whatever order, from whatever world in which all that lay there lies as it lay. -/
theorem wp_region_below_head {P : Program} {id : Nat} {Q : Exit → Act → World → Prop} {a : Act} {w : World} {l : List Oper} (n : Nat) (hm : P.follows .mixedOrders = true) (hB : firstB l.toArray 0 n = true)
    (h : wpQuiet P l.toArray (fun w' => ∃ p : Regrown, w' = Sort.grow (redrawn w p.d) p.os) (fun a' => ∀ w', Below w.heap.size w w' → wpAny P .any l.toArray Q (l.length - n) (marks n 0 (Array.replicate l.length false)) a' w') (l.take n) a) :
    (Code.region id l.toArray true).wp P Q a w := by
  refine wp_region_any hm ?_
  have e : ∀ w', Below { w with drawn := w.drawn + 1 }.heap.size { w with drawn := w.drawn + 1 } w' → Below w.heap.size w w' := fun w' hb => ⟨hb.os, hb.tape, hb.output, hb.size, hb.block⟩
  have hq : wpQuiet P l.toArray (fun w' => ∃ p : Regrown, w' = Sort.grow (redrawn { w with drawn := w.drawn + 1 } p.d) p.os) (fun a' => ∀ w', Below { w with drawn := w.drawn + 1 }.heap.size { w with drawn := w.drawn + 1 } w' → wpAny P .any l.toArray Q (l.length - n) (marks n 0 (Array.replicate l.length false)) a' w') (l.take n) a :=
    wpQuiet_mono (fun a' H w' hb => H w' (e w' hb)) (l.take n) a h
  have := wpAny_below_head (P := P) (Q := Q) (a := a) (w := { w with drawn := w.drawn + 1 }) 0 n hB hq
  simpa [marks] using this
/-- The last operations of a region, whose order is forced. -/
theorem wpAny_rest {P : Program} {md : Region.Mode} {l : List Oper} {Q : Exit → Act → World → Prop} {listed : Array Bool} {a : Act} {w : World} (k : Nat)
    (hB : Region.seqB md l.toArray (l.length - k) k listed = true) (h : wpList P l.toArray Q (l.drop k) a w) : wpAny P md l.toArray Q (l.length - k) listed a w := by
  have := wpAny_of_seq (P := P) (md := md) (ops := l.toArray) (Q' := Q) (l.drop k) k listed a w (fun j => by simp [List.getElem?_drop]) (by simpa using hB) h
  simpa using this
/-- The last operation of a region. -/
theorem wpAny_last {P : Program} {md : Region.Mode} {l : List Oper} {Q : Exit → Act → World → Prop} {listed : Array Bool} {a : Act} {w : World} (k : Nat) (o : Oper) (ho : l[k]? = some o) (hk : l.length = k + 1)
    (hB : Region.seqB md l.toArray 1 k listed = true) (h : wpList P l.toArray Q [o] a w) : wpAny P md l.toArray Q 1 listed a w := by
  refine wpAny_of_seq [o] k listed a w (fun j => ?_) hB h
  cases j with
  | zero => simpa using ho.symm
  | succ j => simp; omega
end Go.Proofs.YtonmccmeljeopaaDoor
