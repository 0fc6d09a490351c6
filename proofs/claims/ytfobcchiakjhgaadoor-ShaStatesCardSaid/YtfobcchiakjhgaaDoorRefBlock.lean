/-
  WHAT THE REFERENCE'S Block RETURNS.
-/
import Derived.Test.YtfobcchiakjhgaaDoorRefBits
namespace Go.Proofs.YtfobcchiakjhgaaDoor
open Go.RowKit
set_option linter.unusedSimpArgs false
set_option linter.unusedVariables false

/-- Bytes lie in memory from a place on. -/
def Bytes (w : World) (g off : Nat) (l : List UInt8) : Prop := ∀ j, j < l.length → w.cell? ⟨g, off + j, none⟩ = some (.int .u8 ((l.getD j 0).toNat : Int))
theorem Bytes.below {B g off : Nat} {l : List UInt8} {w w' : World} (h : Bytes w g off l) (hb : Below B w w') (hg : g < B) : Bytes w' g off l := fun j hj => by
  rw [hb.cell (p := ⟨g, off + j, none⟩) hg]; exact h j hj

/-- What the block's walk keeps: the words, the result, the constants, the schedule so far. -/
structure Fr (w : World) (G : Nat) (xs ws : List (BitVec 32)) (wr : World) : Prop where
  below : Below w.heap.size w wr
  size : G + 1 < wr.heap.size
  h : wr.heap[w.heap.size]? = some (.cells (wc xs) 23 (0, 0))
  r : wr.heap[w.heap.size + 1]? = some (.cells (wc (List.replicate 8 0)) 23 (0, 0))
  k : wr.heap[G]? = some (.cells (wc kWords) 61 (0, 0))
  s : wr.heap[G + 1]? = some (.cells (wc ws) 61 (0, 0))
theorem Fr.drewN {w wr : World} {G : Nat} {xs ws : List (BitVec 32)} (h : Fr w G xs ws wr) (n : Nat) : Fr w G xs ws (wr.drewN n) :=
  ⟨below_drewN h.below n, h.size, h.h, h.r, h.k, h.s⟩
theorem Fr.set {w wr : World} {G : Nat} {xs ws zs : List (BitVec 32)} {z : BitVec 32} (h : Fr w G xs (ws ++ z :: zs) wr) (hG : w.heap.size + 1 + 1 ≤ G) (i : Nat) (hi : i = ws.length) (x : BitVec 32) :
    Fr w G xs (ws ++ [x] ++ zs) (wr.setCell ⟨G + 1, i, none⟩ (.int .u32 (x.toNat : Int))) := by
  refine ⟨h.below.setCell (by show w.heap.size ≤ G + 1; omega) _, by simpa using h.size, ?_, ?_, ?_, ?_⟩
  · rw [heap_setCell_other _ _ _ _ (by show _ ≠ G + 1; omega)]; exact h.h
  · rw [heap_setCell_other _ _ _ _ (by show _ ≠ G + 1; omega)]; exact h.r
  · rw [heap_setCell_other _ _ _ _ (by show _ ≠ G + 1; omega)]; exact h.k
  · rw [heap_setCell_same _ _ _ _ _ _ h.s, wc_set _ _ _ _ _ hi]

theorem f_smallZero (x : BitVec 32) : bits BinOp.xor IntKind.u32 (bits BinOp.xor IntKind.u32 ((rotr x 7).toNat : Int) ((rotr x 18).toNat : Int)) ((x.toNat : Int) / 8) = ((pSmallZero x).toNat : Int) := by
  rw [show (x.toNat : Int) / (8 : Int) = ((x >>> 3).toNat : Int) from b_shr x 3, b_xor, b_xor]; rfl
theorem f_smallOne (x : BitVec 32) : bits BinOp.xor IntKind.u32 (bits BinOp.xor IntKind.u32 ((rotr x 17).toNat : Int) ((rotr x 19).toNat : Int)) ((x.toNat : Int) / 1024) = ((pSmallOne x).toNat : Int) := by
  rw [show (x.toNat : Int) / (1024 : Int) = ((x >>> 10).toNat : Int) from b_shr x 10, b_xor, b_xor]; rfl
theorem f_bigZero (x : BitVec 32) : bits BinOp.xor IntKind.u32 (bits BinOp.xor IntKind.u32 ((rotr x 2).toNat : Int) ((rotr x 13).toNat : Int)) ((rotr x 22).toNat : Int) = ((pBigZero x).toNat : Int) := by
  rw [b_xor, b_xor]; rfl
theorem f_bigOne (x : BitVec 32) : bits BinOp.xor IntKind.u32 (bits BinOp.xor IntKind.u32 ((rotr x 6).toNat : Int) ((rotr x 11).toNat : Int)) ((rotr x 25).toNat : Int) = ((pBigOne x).toNat : Int) := by
  rw [b_xor, b_xor]; rfl
theorem f_choice (x y z : BitVec 32) : bits BinOp.xor IntKind.u32 (bits BinOp.and IntKind.u32 (x.toNat : Int) (y.toNat : Int)) (bits BinOp.and IntKind.u32 (bits BinOp.xor IntKind.u32 4294967295 (x.toNat : Int)) (z.toNat : Int)) = ((pChoice x y z).toNat : Int) := by
  rw [show (4294967295 : Int) = IntKind.u32.max from by decide, b_not, b_and, b_and, b_xor]; rfl
theorem f_majority (x y z : BitVec 32) : bits BinOp.xor IntKind.u32 (bits BinOp.xor IntKind.u32 (bits BinOp.and IntKind.u32 (x.toNat : Int) (y.toNat : Int)) (bits BinOp.and IntKind.u32 (x.toNat : Int) (z.toNat : Int))) (bits BinOp.and IntKind.u32 (y.toNat : Int) (z.toNat : Int)) = ((pMajority x y z).toNat : Int) := by
  rw [b_and, b_and, b_and, b_xor, b_xor]; rfl

set_option maxHeartbeats 2000000 in
set_option maxRecDepth 100000 in
theorem rblock_calls (st : S8) (gb off cap : Nat) (l : List UInt8) (hl : l.length = 64) (hc : 64 ≤ cap) (w : World) (hg : gb < w.heap.size) (hs : Bytes w gb off l) :
    Calls Tryd.prog 16 #[.agg st.cells, .slice (some ⟨gb, off, none⟩) 64 cap] w fun e w' => e = .returned (.agg (pBlock st l).cells) ∧ Below w.heap.size w w' := by
  generalize hP : pBlock st l = PB
  have HP := hide hP
  clear hP
  obtain ⟨a, b, c, d, e, f, g, h⟩ := st
  have hargs : (S8.mk a b c d e f g h).cells = #[.int .u32 (a.toNat : Int), .int .u32 (b.toNat : Int), .int .u32 (c.toNat : Int), .int .u32 (d.toNat : Int), .int .u32 (e.toNat : Int), .int .u32 (f.toNat : Int), .int .u32 (g.toNat : Int), .int .u32 (h.toNat : Int)] := rfl
  rw [hargs]
  clear hargs
  have Hl := hide hl
  clear hl
  go_enter Tryd.func16, Tryd.ntmps16
  go_wp2_with fail
  refine (constants_calls _).mono ?_
  rintro en w1 ⟨rfl, hb1⟩
  have hz1 : w.heap.size + 1 + 1 ≤ w1.heap.size := by have := hb1.size; simpa using this
  have q0 : w1.heap[w.heap.size]? = some (.cells (wc [a, b, c, d, e, f, g, h]) 23 (0, 0)) := Below.at hb1 (by simp; omega) (al2 _ _ _).1
  have q1 : w1.heap[w.heap.size + 1]? = some (.cells (wc (List.replicate 8 0)) 23 (0, 0)) := Below.at hb1 (by simp) (al2 _ _ _).2
  have hb : Below w.heap.size w w1 := (bel2 _ _ _).trans (hb1.mono (by simp; omega))
  clear hb1
  have hs1 := hs.below hb hg
  have hik : (Tryd.prog.info? 61).map (·.size) = some (wc kWords).size := by rw [wc_size]; kernel_rfl
  have qk0 : (w1.alloc (.cells (wc (List.replicate 64 0)) 61)).heap[w1.heap.size]? = some (.cells (wc (List.replicate 64 0)) 61 (0, 0)) := al1 _ _
  go_wp2_with (refine wpList_store_row rfl 61 (.tmp 5) (.tmp 26) rfl w1.heap.size _ rfl rfl 61 _ qk0 hik (by rw [wc_size, wc_size]; rfl) (wc_oneCell _) ?_)
  obtain ⟨W, hW⟩ : ∃ W, W = ((w1.alloc (.cells (wc (List.replicate 64 0)) 61)).setRow w1.heap.size (wc kWords)).alloc (.cells (wc (List.replicate 64 0)) 61) := ⟨_, rfl⟩
  change Code.wp _ _ _ _ (((w1.alloc (.cells (wc (List.replicate 64 0)) 61)).setRow w1.heap.size (wc kWords)).alloc (.cells (wc (List.replicate 64 0)) 61))
  rw [← hW]
  have fr : Fr w w1.heap.size [a, b, c, d, e, f, g, h] (sched16 l 0 ++ List.replicate (64 - 0) 0) W := by
    have z2 : ((w1.alloc (.cells (wc (List.replicate 64 0)) 61)).setRow w1.heap.size (wc kWords)).heap.size = w1.heap.size + 1 := by rw [setRow_size]; simp
    refine ⟨?_, ?_, ?_, ?_, ?_, ?_⟩
    · rw [hW]; exact (below_setRow (hb.alloc (by omega) _) (by omega) _).alloc (by omega) _
    · rw [hW]; simp
    · rw [hW, Below.heap_alloc _ _ _ (by omega), setRow_other _ _ _ _ (by omega), Below.heap_alloc _ _ _ (by omega)]; exact q0
    · rw [hW, Below.heap_alloc _ _ _ (by omega), setRow_other _ _ _ _ (by omega), Below.heap_alloc _ _ _ (by omega)]; exact q1
    · rw [hW, Below.heap_alloc _ _ _ (by omega)]; exact setRow_heap _ _ _ _ _ _ qk0
    · rw [hW, ← z2]; exact al1 _ _
  have hsW : Bytes W gb off l := hs.below fr.below hg
  clear hW qk0 hik hs1 hb q0 q1
  generalize w1.heap.size = G at *
  clear w1
  go_loopw [7] (fun i wr => ∃ k : Nat, k ≤ 16 ∧ i = .int .i64 k ∧ Fr w G [a, b, c, d, e, f, g, h] (sched16 l k ++ List.replicate (64 - k) 0) wr) (fun i _ => 16 - (intOf i).toNat)
  case atStart => exact ⟨0, by omega, rfl, fr⟩
  case round =>
    clear fr hsW
    obtain ⟨k, hk, rfl, fr⟩ := hrel
    by_cases hlt : k < 16
    · have hb := hs.below fr.below hg
      have hl := unhide Hl
      obtain ⟨n, Hn, en⟩ : ∃ n : Nat, Hid (4 * k = n) ∧ (4 : Int) * (k : Int) = (n : Int) := ⟨4 * k, rfl, by omega⟩
      have hn := unhide Hn
      have b0 := hb n (by omega)
      have b1 := hb (n + 1) (by omega)
      have b2 := hb (n + 2) (by omega)
      have b3 := hb (n + 3) (by omega)
      obtain ⟨x0, e0, c0⟩ : ∃ x : UInt8, Hid (l.getD n 0 = x) ∧ wr.cell? ⟨gb, off + n, none⟩ = some (.int .u8 (x.toNat : Int)) := ⟨_, rfl, b0⟩
      obtain ⟨x1, e1, c1⟩ : ∃ x : UInt8, Hid (l.getD (n + 1) 0 = x) ∧ wr.cell? ⟨gb, off + (n + 1), none⟩ = some (.int .u8 (x.toNat : Int)) := ⟨_, rfl, b1⟩
      obtain ⟨x2, e2, c2⟩ : ∃ x : UInt8, Hid (l.getD (n + 2) 0 = x) ∧ wr.cell? ⟨gb, off + (n + 2), none⟩ = some (.int .u8 (x.toNat : Int)) := ⟨_, rfl, b2⟩
      obtain ⟨x3, e3, c3⟩ : ∃ x : UInt8, Hid (l.getD (n + 3) 0 = x) ∧ wr.cell? ⟨gb, off + (n + 3), none⟩ = some (.int .u8 (x.toNat : Int)) := ⟨_, rfl, b3⟩
      have i0 : (0:Int) ≤ n ∧ (n : Int) < 64 := by omega
      have i1 : (0:Int) ≤ n + 1 ∧ (n : Int) + 1 < 64 := by omega
      have i2 : (0:Int) ≤ n + 2 ∧ (n : Int) + 2 < 64 := by omega
      have i3 : (0:Int) ≤ n + 3 ∧ (n : Int) + 3 < 64 := by omega
      have w0 := wi64 n (by omega) (by omega)
      have w1 := wi64 (n + 1) (by omega) (by omega)
      have w2 := wi64 (n + 2) (by omega) (by omega)
      have w3 := wi64 (n + 3) (by omega) (by omega)
      have t1 : ((n : Int) + 1).toNat = n + 1 := by omega
      have t2 : ((n : Int) + 2).toNat = n + 2 := by omega
      have t3 : ((n : Int) + 3).toNat = n + 3 := by omega
      have ik : (0:Int) ≤ k ∧ (k : Int) < 64 := by omega
      have hlen : (sched16 l k ++ List.replicate (64 - k) (0 : BitVec 32)).length = 64 := by simp [sched16_length]; omega
      have cs : wr.cell? ⟨G + 1, k, none⟩ = some (.int .u32 (((sched16 l k ++ List.replicate (64 - k) (0 : BitVec 32)).getD k 0).toNat : Int)) := by
        rw [cell_of_row _ _ _ _ _ _ fr.s]; exact wc_at _ _ (by rw [hlen]; omega)
      have fz : wr.frozen? ⟨G + 1, k, none⟩ = false := frozen_of_row _ _ _ _ _ fr.s
      clear hl hn hb b0 b1 b2 b3 hlen
      go_wp2
      refine wp_region_still_tail 35 mixed (by kernel_rfl) ?_
      simp only [List.take_succ_cons, List.take_zero, List.drop_succ_cons, List.drop_zero]
      iterate 35 still_step
      refine wpStill_nil ?_
      go_wp2
      go_roundw
      case rel =>
        refine ⟨k + 1, by omega, by go_num, ?_⟩
        have e : List.replicate (64 - k) (0 : BitVec 32) = 0 :: List.replicate (64 - (k + 1)) 0 := by rw [show 64 - k = (64 - (k + 1)) + 1 by omega]; rfl
        rw [e] at fr
        have hx : wAt l (4 * k) = word x0 x1 x2 x3 := by unfold wAt; rw [unhide Hn, unhide e0, unhide e1, unhide e2, unhide e3]
        rw [sched16_succ, hx]
        refine Eq.mp (congrArg (fun z => Fr w G _ _ (World.setCell _ _ (.int .u32 z))) ?_) ((fr.drewN 1).set hz1 k (sched16_length _ _).symm (word x0 x1 x2 x3))
        rw [word_toNat]
        have := x0.toNat_lt; have := x1.toNat_lt; have := x2.toNat_lt; have := x3.toNat_lt
        omega
      case measure => simp [intOf]; omega
    · have fr0 : Fr w G [a, b, c, d, e, f, g, h] (schedN l 0 ++ List.replicate (48 - 0) 0) wr := by
        have := fr; rw [show k = 16 by omega] at this; exact this
      have hd : decide ((k : Int) < 16) = false := by simp; omega
      clear fr
      go_wp2
      go_loopw [8] (fun i wr => ∃ k : Nat, k ≤ 48 ∧ i = .int .i64 (16 + k : Nat) ∧ Fr w G [a, b, c, d, e, f, g, h] (schedN l k ++ List.replicate (48 - k) 0) wr) (fun i _ => 64 - (intOf i).toNat)
      case atStart => exact ⟨0, by omega, rfl, fr0⟩
      case round =>
        clear fr0
        obtain ⟨k, hk, rfl, fr⟩ := hrel
        by_cases hlt : k < 48
        · generalize hn : 16 + k = n
          have hlen : (schedN l k ++ List.replicate (48 - k) (0 : BitVec 32)).length = 64 := by simp [schedN_length]; omega
          have hcell : ∀ j, j < 64 → wr.cell? ⟨G + 1, j, none⟩ = some (.int .u32 (((schedN l k ++ List.replicate (48 - k) (0 : BitVec 32)).getD j 0).toNat : Int)) := fun j hj => by
            rw [cell_of_row _ _ _ _ _ _ fr.s]; exact wc_at _ _ (by rw [hlen]; omega)
          have hget : ∀ j, j < n → ∃ x : BitVec 32, Hid ((schedN l k).getD j 0 = x) ∧ wr.cell? ⟨G + 1, j, none⟩ = some (.int .u32 (x.toNat : Int)) := fun j hj =>
            ⟨_, rfl, by rw [hcell j (by omega), List.getD_eq_getElem?_getD, List.getElem?_append_left (by rw [schedN_length]; omega), ← List.getD_eq_getElem?_getD]⟩
          have hfz : wr.frozen? ⟨G + 1, n, none⟩ = false := frozen_of_row _ _ _ _ _ fr.s
          have c0 := hcell n (by omega)
          obtain ⟨x2, e2, c2⟩ := hget (n - 2) (by omega)
          obtain ⟨x7, e7, c7⟩ := hget (n - 7) (by omega)
          obtain ⟨x15, e15, c15⟩ := hget (n - 15) (by omega)
          obtain ⟨x16, e16, c16⟩ := hget (n - 16) (by omega)
          have am := a_mod
          have aw := a_wrap
          have b0 : (0:Int) ≤ n ∧ (n : Int) < 64 := by omega
          have b2 : (2:Int) ≤ n ∧ (n : Int) - 2 < 64 := by omega
          have t2 : ((n : Int) - 2).toNat = n - 2 := by omega
          have b7 : (7:Int) ≤ n ∧ (n : Int) - 7 < 64 := by omega
          have t7 : ((n : Int) - 7).toNat = n - 7 := by omega
          have b15 : (15:Int) ≤ n ∧ (n : Int) - 15 < 64 := by omega
          have t15 : ((n : Int) - 15).toNat = n - 15 := by omega
          have b16 : (16:Int) ≤ n ∧ (n : Int) - 16 < 64 := by omega
          have t16 : ((n : Int) - 16).toNat = n - 16 := by omega
          have w2 := wi64 (n - 2) (by omega) (by omega)
          have w7 := wi64 (n - 7) (by omega) (by omega)
          have w15 := wi64 (n - 15) (by omega) (by omega)
          have w16 := wi64 (n - 16) (by omega) (by omega)
          have sz := f_smallZero x15
          have so := f_smallOne x2
          have Hn := hide hn
          clear hn hcell hget hlen
          go_wp2
          go_quiet ((first | (go_at_call 50; exact Calls.quiet_of_same (rturn_calls _ _ (by omega) (by omega) _))))
          go_wp2
          generalize hv2 : wr.drewN nq = v2
          have hc2 : ∀ p, v2.cell? p = wr.cell? p := fun p => by rw [← hv2]; rfl
          have Hv2 := hide hv2
          clear hv2
          go_quiet ((first | (go_at_call 50; exact Calls.quiet_of_same (rturn_calls _ _ (by omega) (by omega) _))))
          go_wp2
          have fr3 : Fr w G [a, b, c, d, e, f, g, h] (schedN l k ++ List.replicate (48 - k) 0) (v2.drewN nq) := by rw [← unhide Hv2]; exact (fr.drewN _).drewN _
          have hc3 : ∀ p, (v2.drewN nq).cell? p = wr.cell? p := hc2
          have hz3 : (v2.drewN nq).frozen? ⟨G + 1, n, none⟩ = false := frozen_of_row _ _ _ _ _ fr3.s
          generalize v2.drewN nq = v3 at *
          clear hc2 Hv2 fr
          refine wp_region_still_tail 15 mixed (by kernel_rfl) ?_
          simp only [List.take_succ_cons, List.take_zero, List.drop_succ_cons, List.drop_zero]
          iterate 15 still_step
          refine wpStill_nil ?_
          go_wp2
          go_roundw
          case rel =>
            have hn := unhide Hn
            have hx : schedNext (schedN l k) = addw (addw (addw x16 (pSmallZero x15)) x7) (pSmallOne x2) := by
              unfold schedNext; rw [schedN_length, hn, unhide e2, unhide e7, unhide e15, unhide e16]
              simp only [addw]; ac_rfl
            refine ⟨k + 1, by omega, by rw [← hn]; go_num, ?_⟩
            have e : List.replicate (48 - k) (0 : BitVec 32) = 0 :: List.replicate (48 - (k + 1)) 0 := by rw [show 48 - k = (48 - (k + 1)) + 1 by omega]; rfl
            rw [e] at fr3
            show Fr w G _ ((schedN l k ++ [schedNext (schedN l k)]) ++ _) _
            rw [hx]
            exact (fr3.drewN 1).set hz1 n (by rw [schedN_length]; omega) _
          case measure => simp [intOf]; omega
        · have frS : Fr w G [a, b, c, d, e, f, g, h] (sched l) wr := by
            have := fr; rw [show k = 48 by omega] at this; simpa [sched] using this
          have hd2 : decide (((16 + k : Nat) : Int) < 64) = false := by simp; omega
          have q0 := frS.h
          have c0 : wr.cell? ⟨w.heap.size, 0, none⟩ = some (.int .u32 (a.toNat : Int)) := cell_of_row _ _ _ _ _ _ q0
          have c1 : wr.cell? ⟨w.heap.size, 1, none⟩ = some (.int .u32 (b.toNat : Int)) := cell_of_row _ _ _ _ _ _ q0
          have c2 : wr.cell? ⟨w.heap.size, 2, none⟩ = some (.int .u32 (c.toNat : Int)) := cell_of_row _ _ _ _ _ _ q0
          have c3 : wr.cell? ⟨w.heap.size, 3, none⟩ = some (.int .u32 (d.toNat : Int)) := cell_of_row _ _ _ _ _ _ q0
          have c4 : wr.cell? ⟨w.heap.size, 4, none⟩ = some (.int .u32 (e.toNat : Int)) := cell_of_row _ _ _ _ _ _ q0
          have c5 : wr.cell? ⟨w.heap.size, 5, none⟩ = some (.int .u32 (f.toNat : Int)) := cell_of_row _ _ _ _ _ _ q0
          have c6 : wr.cell? ⟨w.heap.size, 6, none⟩ = some (.int .u32 (g.toNat : Int)) := cell_of_row _ _ _ _ _ _ q0
          have c7 : wr.cell? ⟨w.heap.size, 7, none⟩ = some (.int .u32 (h.toNat : Int)) := cell_of_row _ _ _ _ _ _ q0
          clear q0 fr
          go_wp2
          go_quiet (fail)
          go_wp2
          have frN := frS.drewN nq
          generalize wr.drewN nq = v at *
          clear c0 c1 c2 c3 c4 c5 c6 c7 frS hd2 hd
          go_loopw [11, 12, 13, 14, 15, 16, 17, 18, 19] (fun y0 y1 y2 y3 y4 y5 y6 y7 i wr => ∃ (k : Nat) (r0 r1 r2 r3 r4 r5 r6 r7 : BitVec 32), k ≤ 64 ∧ i = .int .i64 k ∧ y0 = .int .u32 (r0.toNat : Int) ∧ y1 = .int .u32 (r1.toNat : Int) ∧ y2 = .int .u32 (r2.toNat : Int) ∧ y3 = .int .u32 (r3.toNat : Int) ∧ y4 = .int .u32 (r4.toNat : Int) ∧ y5 = .int .u32 (r5.toNat : Int) ∧ y6 = .int .u32 (r6.toNat : Int) ∧ y7 = .int .u32 (r7.toNat : Int) ∧ Hid (pRounds (sched l) ⟨a, b, c, d, e, f, g, h⟩ k = ⟨r0, r1, r2, r3, r4, r5, r6, r7⟩) ∧ Fr w G [a, b, c, d, e, f, g, h] (sched l) wr) (fun _ _ _ _ _ _ _ _ i _ => 64 - (intOf i).toNat)
          case atStart => exact ⟨0, a, b, c, d, e, f, g, h, by omega, rfl, rfl, rfl, rfl, rfl, rfl, rfl, rfl, rfl, rfl, frN⟩
          case round =>
            clear frN
            obtain ⟨k, r0, r1, r2, r3, r4, r5, r6, r7, hk, rfl, rfl, rfl, rfl, rfl, rfl, rfl, rfl, rfl, Hr, fr⟩ := hrel
            by_cases hlt : k < 64
            · obtain ⟨xk, ek, ck⟩ : ∃ x : BitVec 32, Hid (kWords.getD k 0 = x) ∧ wr.cell? ⟨G, k, none⟩ = some (.int .u32 (x.toNat : Int)) := ⟨_, rfl, by rw [cell_of_row _ _ _ _ _ _ fr.k]; exact wc_at _ _ hlt⟩
              obtain ⟨xw, ew, cw⟩ : ∃ x : BitVec 32, Hid ((sched l).getD k 0 = x) ∧ wr.cell? ⟨G + 1, k, none⟩ = some (.int .u32 (x.toNat : Int)) := ⟨_, rfl, by rw [cell_of_row _ _ _ _ _ _ fr.s]; exact wc_at _ _ (by rw [sched_length]; exact hlt)⟩
              have bk : (0:Int) ≤ k ∧ (k : Int) < 64 := by omega
              have am := a_mod
              have aw := a_wrap
              have f1 := f_bigOne r4
              have f2 := f_choice r4 r5 r6
              have f3 := f_bigZero r0
              have f4 := f_majority r0 r1 r2
              go_wp2
              go_quiet ((first | (go_at_call 50; exact Calls.quiet_of_same (rturn_calls _ _ (by omega) (by omega) _))))
              have fr2 := fr.drewN nq
              generalize wr.drewN nq = v2 at *
              clear ck cw
              go_wp2_with (go_at_call 50; refine (rturn_calls _ _ (by omega) (by omega) _).mono ?_; rintro en w' ⟨rfl, rfl⟩)
              refine ⟨?_, ?measure⟩
              (repeat apply Exists.intro)
              refine ⟨?rel, rfl⟩
              case rel =>
                refine ⟨k + 1, _, _, _, _, _, _, _, _, by omega, by go_num, rfl, rfl, rfl, rfl, rfl, rfl, rfl, rfl, ?_, fr2⟩
                show pRound _ _ (pRounds _ _ k) = _
                rw [unhide Hr, unhide ek, unhide ew]
                rfl
              case measure => simp [intOf]; omega
            · have er : PB = (S8.mk a b c d e f g h).add ⟨r0, r1, r2, r3, r4, r5, r6, r7⟩ := by
                rw [← unhide HP, pBlock, if_pos (unhide Hl), ← unhide Hr, show k = 64 by omega]
              have q0 := fr.h
              have q1 := fr.r
              have c0 : wr.cell? ⟨w.heap.size, 0, none⟩ = some (.int .u32 (a.toNat : Int)) := cell_of_row _ _ _ _ _ _ q0
              have c1 : wr.cell? ⟨w.heap.size, 1, none⟩ = some (.int .u32 (b.toNat : Int)) := cell_of_row _ _ _ _ _ _ q0
              have c2 : wr.cell? ⟨w.heap.size, 2, none⟩ = some (.int .u32 (c.toNat : Int)) := cell_of_row _ _ _ _ _ _ q0
              have c3 : wr.cell? ⟨w.heap.size, 3, none⟩ = some (.int .u32 (d.toNat : Int)) := cell_of_row _ _ _ _ _ _ q0
              have c4 : wr.cell? ⟨w.heap.size, 4, none⟩ = some (.int .u32 (e.toNat : Int)) := cell_of_row _ _ _ _ _ _ q0
              have c5 : wr.cell? ⟨w.heap.size, 5, none⟩ = some (.int .u32 (f.toNat : Int)) := cell_of_row _ _ _ _ _ _ q0
              have c6 : wr.cell? ⟨w.heap.size, 6, none⟩ = some (.int .u32 (g.toNat : Int)) := cell_of_row _ _ _ _ _ _ q0
              have c7 : wr.cell? ⟨w.heap.size, 7, none⟩ = some (.int .u32 (h.toNat : Int)) := cell_of_row _ _ _ _ _ _ q0
              have hd3 : decide ((k : Int) < 64) = false := by simp; omega
              have am := a_mod
              have aw := a_wrap
              have hi : (Tryd.prog.info? 23).map (·.size) = some ((S8.mk a b c d e f g h).add ⟨r0, r1, r2, r3, r4, r5, r6, r7⟩).cells.size := by show _ = some 8; kernel_rfl
              have ho1 : ((S8.mk a b c d e f g h).add ⟨r0, r1, r2, r3, r4, r5, r6, r7⟩).cells.all (·.oneCell') = true := wc_oneCell _
              have Her := hide er
              have Q0 := hide q0
              clear er q0
              go_wp2_with (refine wpList_store_row rfl 23 (.tmp 4) (.tmp 230) rfl (w.heap.size + 1) ((S8.mk a b c d e f g h).add ⟨r0, r1, r2, r3, r4, r5, r6, r7⟩).cells rfl rfl 23 _ q1 hi rfl ho1 ?_)
              exact bodyPost_ret (results_cell_row rfl _ _ (w.heap.size + 1) _ _ _ _ rfl (setRow_heap _ _ _ _ _ _ q1) Tryd.underlying23 rfl hi) rfl ⟨by rw [unhide Her], below_setRow fr.below (by simp) _⟩

set_option maxHeartbeats 400000 in
set_option maxRecDepth 100000 in
theorem rblock_other (st : S8) (gb off cap n : Nat) (hn : n ≠ 64) (hm : n ≤ maxLen) (w : World) :
    Calls Tryd.prog 16 #[.agg st.cells, .slice (some ⟨gb, off, none⟩) n cap] w fun e w' => e = .returned (.agg st.cells) ∧ Below w.heap.size w w' := by
  have hne : ((n : Int) != 64) = true := by simp; omega
  obtain ⟨a, b, c, d, e, f, g, h⟩ := st
  simp only [S8.cells, S8.list, wc, List.map]
  go_enter Tryd.func16, Tryd.ntmps16
  go_wp2
  exact bodyPost_ret (results_cell_row rfl _ _ (w.heap.size + 1) _ _ _ _ rfl (heap_alloc2_new _ _ _) Tryd.underlying23 rfl (by kernel_rfl)) rfl ⟨rfl, ((Below.refl _ _).alloc (Nat.le_refl _) _).alloc (by simp) _⟩
/-- Whatever the length. -/
theorem rblock_any (st : S8) (gb off cap : Nat) (l : List UInt8) (hc : l.length ≤ cap) (hm : l.length ≤ maxLen) (w : World) (hg : gb < w.heap.size) (hs : Bytes w gb off l) :
    Calls Tryd.prog 16 #[.agg st.cells, .slice (some ⟨gb, off, none⟩) l.length cap] w fun e w' => e = .returned (.agg (pBlock st l).cells) ∧ Below w.heap.size w w' := by
  by_cases h : l.length = 64
  · have := rblock_calls st gb off cap l h (by omega) w hg hs
    rw [h]; exact this
  · have := rblock_other st gb off cap l.length h hm w
    rw [pBlock, if_neg h]; exact this
theorem block_any (st : S8) (l : List UInt8) (hm : l.length ≤ maxLen) (w : World) (tabs : Tabs w) :
    Calls Tryd.prog 15 #[.agg st.cells, .string ⟨l.toArray⟩] w fun e w' => e = .returned (.agg (pBlock st l).cells) ∧ Below w.heap.size w w' := by
  have hz : (⟨l.toArray⟩ : ByteArray).size = l.length := by simp [ByteArray.size]
  by_cases h : l.length = 64
  · have := block_calls st ⟨l.toArray⟩ (by rw [hz]; exact h) w tabs
    simpa using this
  · have := block_other st ⟨l.toArray⟩ (by rw [hz]; exact h) (by rw [hz]; exact hm) w
    rw [pBlock, if_neg h]; exact this
end Go.Proofs.YtfobcchiakjhgaaDoor
