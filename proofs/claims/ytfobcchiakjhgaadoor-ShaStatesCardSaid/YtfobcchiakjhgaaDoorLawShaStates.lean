/-
  THE WALK OF THE LAW ShaStates: whatever the state and the text, it returns true, and nothing that was there has turned.
-/
import Derived.Test.YtfobcchiakjhgaaDoorShaLaw
import Derived.Test.YtfobcchiakjhgaaDoorShaPartsP
import Derived.Test.YtfobcchiakjhgaaDoorRefEnd
import Derived.Deep.RegionHeld
namespace Go.Proofs.YtfobcchiakjhgaaDoor
open Go.RowKit
set_option linter.unusedSimpArgs false
set_option linter.unusedVariables false

theorem wpList_store_row_to {P : Program} {ops : Array Oper} {rest : List Oper} {o : Oper} {a : Act} {w : World} {Q : Exit → Act → World → Prop} (hgd : o.guard = none) (ty : TypeId) (x y : Operand) (ho : o.op = .store ty x y)
    (g : Nat) (cells : Array Value) (hx : a.eval x = .pointer (some ⟨g, 0, none⟩)) (hy : a.eval y = .agg cells)
    (t : TypeId) (old : Array Value) (hg : w.heap[g]? = some (.cells old t (0, 0))) (hi : (P.info? ty).map (·.size) = some cells.size)
    (hold : old.size = cells.size) (h1 : cells.all (·.oneCell') = true) (V : World) (hV : V = w.setRow g cells)
    (h : wpList P ops Q rest (a.put o.dst undef) V) : wpList P ops Q (o :: rest) a w := by
  subst hV
  exact wpList_store_row hgd ty x y ho g cells hx hy t old hg hi hold h1 h
/-- '[]byte' back to a text. -/
theorem back_run (w : World) (g off cap : Nat) (l : List UInt8) (h : Bytes w g off l) : (convert 27 9 (.slice (some ⟨g, off, none⟩) l.length cap)).run Tryd.prog w = .ok (.string (str l)) w := by
  have := run_convert_bytes_back (P := Tryd.prog) w 27 9 5 ⟨g, off, none⟩ cap l Tryd.underlying27 Tryd.underlying5 Tryd.underlying9 (fun j hj => by
    rw [show (⟨g, off, none⟩ : Addr).add j = ⟨g, off + j, none⟩ by unfold Addr.add; split <;> simp_all, h j hj]; simp [hj])
  rw [this]; rfl

set_option maxHeartbeats 4000000 in
set_option maxRecDepth 100000 in
theorem shaStates_walk (st : St) (text : List UInt8) (hr : st.rest.length ≤ maxLen) (hl : text.length ≤ maxLen) (w : World) (tabs : Tabs w) :
    Calls Tryd.prog 5 #[.agg st.cells, .string (str text)] w fun e w' => e = .returned (.bool true) ∧ Below w.heap.size w w' := by
  unfold maxLen at hl hr
  obtain ⟨⟨s0, s1, s2, s3, s4, s5, s6, s7⟩, rest, count⟩ := st
  have hr : rest.length ≤ 2 ^ 63 - 1 := hr
  have hargs : (St.mk ⟨s0, s1, s2, s3, s4, s5, s6, s7⟩ rest count).cells = #[.int .u32 (s0.toNat : Int), .int .u32 (s1.toNat : Int), .int .u32 (s2.toNat : Int), .int .u32 (s3.toNat : Int), .int .u32 (s4.toNat : Int), .int .u32 (s5.toNat : Int), .int .u32 (s6.toNat : Int), .int .u32 (s7.toNat : Int), .string (str rest), .int .u64 (count.toNat : Int)] := rfl
  have hb0 : Below w.heap.size w (w.alloc (.cells #[.int .u32 (s0.toNat : Int), .int .u32 (s1.toNat : Int), .int .u32 (s2.toNat : Int), .int .u32 (s3.toNat : Int), .int .u32 (s4.toNat : Int), .int .u32 (s5.toNat : Int), .int .u32 (s6.toNat : Int), .int .u32 (s7.toNat : Int), .string (str rest), .int .u64 (count.toNat : Int)] 37)) := (Below.refl _ _).alloc (Nat.le_refl _) _
  have q0 := al1 w (.cells #[.int .u32 (s0.toNat : Int), .int .u32 (s1.toNat : Int), .int .u32 (s2.toNat : Int), .int .u32 (s3.toNat : Int), .int .u32 (s4.toNat : Int), .int .u32 (s5.toNat : Int), .int .u32 (s6.toNat : Int), .int .u32 (s7.toNat : Int), .string (str rest), .int .u64 (count.toNat : Int)] 37)
  rw [hargs]
  clear hargs
  by_cases hbig : 5000 < rest.length ∨ 5000 < text.length
  · have hd : (decide ((5000 : Int) < (rest.length : Int)) = true) ∨ (decide ((5000 : Int) < (rest.length : Int)) = false ∧ decide ((5000 : Int) < (text.length : Int)) = true) := by
      by_cases h1 : 5000 < rest.length
      · left; simp; omega
      · right; refine ⟨?_, ?_⟩ <;> simp <;> omega
    go_enter Tryd.func5, Tryd.ntmps5
    go_wp2_with fail
    refine (awake_calls _ (tabs.below' hb0)).mono ?_
    rintro en w1 ⟨rfl, hb1⟩
    have q1 := Below.at hb1 (by simp) q0
    have hb1' := hb0.trans (hb1.mono hb0.size)
    have c8 : w1.cell? ⟨w.heap.size, 8, none⟩ = some (.string (str rest)) := cell_of_row _ _ _ _ _ _ q1
    have Ht := hide (tabs.below' hb1')
    clear hb1 q0 q1
    rcases hd with hd | ⟨hd, hd2⟩
    · go_wp2_with fail
      refine (awake_calls _ (unhide Ht)).mono ?_
      rintro en w2 ⟨rfl, hb2⟩
      go_wp2
      go_ret
      exact ⟨rfl, hb1'.trans (hb2.mono hb1'.size)⟩
    · go_wp2_with fail
      refine (awake_calls _ (unhide Ht)).mono ?_
      rintro en w2 ⟨rfl, hb2⟩
      go_wp2
      go_ret
      exact ⟨rfl, hb1'.trans (hb2.mono hb1'.size)⟩
  · have hr5 : rest.length ≤ 5000 := by omega
    have hl5 : text.length ≤ 5000 := by omega
    have hd : decide ((5000 : Int) < (rest.length : Int)) = false := by simp; omega
    have hd2 : decide ((5000 : Int) < (text.length : Int)) = false := by simp; omega
    clear hbig
    go_enter Tryd.func5, Tryd.ntmps5
    go_wp2_with fail
    refine (awake_calls _ (tabs.below' hb0)).mono ?_
    rintro en w1 ⟨rfl, hb1⟩
    have q1 := Below.at hb1 (by simp) q0
    have hz1 : w.heap.size < w1.heap.size := by have := hb1.size; simp at this; omega
    have hb1' := hb0.trans (hb1.mono hb0.size)
    have c8 : w1.cell? ⟨w.heap.size, 8, none⟩ = some (.string (str rest)) := cell_of_row _ _ _ _ _ _ q1
    have t1 := tabs.below' hb1'
    clear hb1 q0 hb0
    have hiS : (Tryd.prog.info? 37).map (·.size) = some (St.mk ⟨s0, s1, s2, s3, s4, s5, s6, s7⟩ rest count).cells.size := by show _ = some 10; kernel_rfl
    go_wp2_with (refine wpList_load_row rfl 37 (.tmp 2) rfl w.heap.size rfl 37 (St.mk ⟨s0, s1, s2, s3, s4, s5, s6, s7⟩ rest count).cells (0, 0) _ q1 Tryd.underlying37 rfl hiS ?_)
    refine (add_calls ⟨⟨s0, s1, s2, s3, s4, s5, s6, s7⟩, rest, count⟩ text (by show rest.length + text.length ≤ _; omega) _ t1).mono ?_
    rintro en w2 ⟨rfl, hb2⟩
    have q2 := Below.at hb2 hz1 q1
    have hbw2 := hb1'.trans (hb2.mono hb1'.size)
    have hz2 : w.heap.size < w2.heap.size := by have := hb2.size; omega
    clear hb2 hb1' q1 c8 hiS
    have hT : ∃ r0 r1 r2 r3 r4 r5 r6 r7 T2 x, Hid (pThrough ⟨s0, s1, s2, s3, s4, s5, s6, s7⟩ (rest ++ text) = (⟨r0, r1, r2, r3, r4, r5, r6, r7⟩, T2)) ∧ pAdd ⟨⟨s0, s1, s2, s3, s4, s5, s6, s7⟩, rest, count⟩ text = ⟨⟨r0, r1, r2, r3, r4, r5, r6, r7⟩, T2, add64 count x⟩ ∧ IntKind.u64.wrap (text.length : Int) = (x.toNat : Int) := by
      generalize hT : pThrough ⟨s0, s1, s2, s3, s4, s5, s6, s7⟩ (rest ++ text) = T
      obtain ⟨⟨r0, r1, r2, r3, r4, r5, r6, r7⟩, T2⟩ := T
      refine ⟨r0, r1, r2, r3, r4, r5, r6, r7, T2, BitVec.ofNat 64 text.length, rfl, ?_, by rw [IntKind.wrap_u64]; simp⟩
      simp only [pAdd]; rw [hT]
    obtain ⟨r0, r1, r2, r3, r4, r5, r6, r7, T2, x, HT, hadd, ex⟩ := hT
    rw [hadd]
    clear hadd
    have hT2 : T2.length < 64 := by have := (pThrough_rest_le ⟨s0, s1, s2, s3, s4, s5, s6, s7⟩ (rest ++ text)).1; rw [unhide HT] at this; exact this
    have hiT : (Tryd.prog.info? 37).map (·.size) = some (St.mk ⟨r0, r1, r2, r3, r4, r5, r6, r7⟩ T2 (add64 count x)).cells.size := by show _ = some 10; kernel_rfl
    have hoT := St.oneCell (St.mk ⟨r0, r1, r2, r3, r4, r5, r6, r7⟩ T2 (add64 count x))
    have q5z := al1 w2 (.cells (St.mk ⟨0, 0, 0, 0, 0, 0, 0, 0⟩ [] 0).cells 37)
    have q5 := setRow_heap _ _ _ (St.mk ⟨r0, r1, r2, r3, r4, r5, r6, r7⟩ T2 (add64 count x)).cells _ _ q5z
    have hb3 := below_setRow (hbw2.alloc hbw2.size (.cells (St.mk ⟨0, 0, 0, 0, 0, 0, 0, 0⟩ [] 0).cells 37)) hbw2.size (St.mk ⟨r0, r1, r2, r3, r4, r5, r6, r7⟩ T2 (add64 count x)).cells
    have q3 := Below.at (below_setRow ((Below.refl w2.heap.size w2).alloc (Nat.le_refl _) (.cells (St.mk ⟨0, 0, 0, 0, 0, 0, 0, 0⟩ [] 0).cells 37)) (Nat.le_refl _) (St.mk ⟨r0, r1, r2, r3, r4, r5, r6, r7⟩ T2 (add64 count x)).cells) hz2 q2
    have hz3 : ((w2.alloc (.cells (St.mk ⟨0, 0, 0, 0, 0, 0, 0, 0⟩ [] 0).cells 37)).setRow w2.heap.size (St.mk ⟨r0, r1, r2, r3, r4, r5, r6, r7⟩ T2 (add64 count x)).cells).heap.size = w2.heap.size + 1 := by rw [setRow_size]; simp
    have ea := append_str rest text
    have n1 : ¬ 9223372036854775807 < rest.length + text.length := by omega
    have hcv := conv_run (rest ++ text)
    obtain ⟨V, hV⟩ : ∃ V, V = (w2.alloc (.cells (St.mk ⟨0, 0, 0, 0, 0, 0, 0, 0⟩ [] 0).cells 37)).setRow w2.heap.size (St.mk ⟨r0, r1, r2, r3, r4, r5, r6, r7⟩ T2 (add64 count x)).cells := ⟨_, rfl⟩
    rw [← hV] at q5 hb3 q3 hz3
    have c0 : V.cell? ⟨w.heap.size, 0, none⟩ = some (.int .u32 (s0.toNat : Int)) := cell_of_row _ _ _ _ _ _ q3
    have c1 : V.cell? ⟨w.heap.size, 1, none⟩ = some (.int .u32 (s1.toNat : Int)) := cell_of_row _ _ _ _ _ _ q3
    have c2 : V.cell? ⟨w.heap.size, 2, none⟩ = some (.int .u32 (s2.toNat : Int)) := cell_of_row _ _ _ _ _ _ q3
    have c3 : V.cell? ⟨w.heap.size, 3, none⟩ = some (.int .u32 (s3.toNat : Int)) := cell_of_row _ _ _ _ _ _ q3
    have c4 : V.cell? ⟨w.heap.size, 4, none⟩ = some (.int .u32 (s4.toNat : Int)) := cell_of_row _ _ _ _ _ _ q3
    have c5 : V.cell? ⟨w.heap.size, 5, none⟩ = some (.int .u32 (s5.toNat : Int)) := cell_of_row _ _ _ _ _ _ q3
    have c6 : V.cell? ⟨w.heap.size, 6, none⟩ = some (.int .u32 (s6.toNat : Int)) := cell_of_row _ _ _ _ _ _ q3
    have c7 : V.cell? ⟨w.heap.size, 7, none⟩ = some (.int .u32 (s7.toNat : Int)) := cell_of_row _ _ _ _ _ _ q3
    have c8 : V.cell? ⟨w.heap.size, 8, none⟩ = some (.string (str rest)) := cell_of_row _ _ _ _ _ _ q3
    have HV := hide hV
    have Q3 := hide q3
    have Q5 := hide q5
    have HZ3 := hide hz3
    clear hV q3 q5 hz3 q2
    go_wp2_with (refine wpList_store_row_to rfl 37 (.tmp 5) (.tmp 22) rfl w2.heap.size _ rfl rfl 37 _ q5z hiT rfl hoT V (unhide HV) ?_)
    clear q5z hiT hoT HV c0 c1 c2 c3 c4 c5 c6 c7 c8 ea n1 hcv
    have hzV : w2.heap.size < V.heap.size := by have := unhide HZ3; omega
    have hcap := bcap_le V (rest ++ text) (by unfold maxLen; rw [List.length_append]; omega)
    have hlenA : rest.length + text.length = (rest ++ text).length := by rw [List.length_append]
    rw [hlenA]
    refine (after_calls ⟨s0, s1, s2, s3, s4, s5, s6, s7⟩ (rest ++ text) V.heap.size 0 (bcap V (rest ++ text)) (bcap_ge _ _) hcap (bworld V (rest ++ text)) (by rw [bworld_size]; omega) (bworld_bytes _ _)).mono ?_
    rintro en w4 ⟨off', cap', rfl, hc4, _, hby4, hb4⟩
    rw [unhide HT] at hc4 hby4 ⊢
    have hbs := bworld_size V (rest ++ text)
    have hb34 : Below V.heap.size V w4 := (bworld_below _ (Below.refl V.heap.size V) (Nat.le_refl _)).trans (hb4.mono (by omega))
    have z4 : V.heap.size < w4.heap.size := by have := hb4.size; omega
    have q0 := Below.at hb34 (by omega) (unhide Q3)
    have q5 := Below.at hb34 hzV (unhide Q5)
    have hbw4 := hb3.trans (hb34.mono hb3.size)
    have hi8 : (Tryd.prog.info? 23).map (·.size) = some (S8.mk r0 r1 r2 r3 r4 r5 r6 r7).cells.size := by show _ = some 8; kernel_rfl
    have ho8 : (S8.mk r0 r1 r2 r3 r4 r5 r6 r7).cells.all (·.oneCell') = true := wc_oneCell _
    have q6z := al1 w4 (.cells (wc (List.replicate 8 0)) 23)
    obtain ⟨wr, hwr⟩ : ∃ wr, wr = (w4.alloc (.cells (wc (List.replicate 8 0)) 23)).setRow w4.heap.size (S8.mk r0 r1 r2 r3 r4 r5 r6 r7).cells := ⟨_, rfl⟩
    have hb4r : Below w4.heap.size w4 wr := by rw [hwr]; exact below_setRow ((Below.refl _ _).alloc (Nat.le_refl _) _) (Nat.le_refl _) _
    have p6 : wr.heap[w4.heap.size]? = some (.cells (S8.mk r0 r1 r2 r3 r4 r5 r6 r7).cells 23 (0, 0)) := by rw [hwr]; exact setRow_heap _ _ _ _ _ _ q6z
    have zr : w4.heap.size < wr.heap.size := by rw [hwr, setRow_size]; simp
    have p0 := Below.at hb4r (by omega) q0
    have p5 := Below.at hb4r (by omega) q5
    have pby := hby4.below hb4r z4
    have hb := hbw4.trans (hb4r.mono hbw4.size)
    have HWR := hide hwr
    clear hwr hb4 hb34 q0 q5 hbw4 hby4 hbs hb3 Q3 Q5 HZ3 hlenA hcap hb4r
    go_wp2_with (refine wpList_store_row_to rfl 23 (.tmp 6) (.tmp 32) rfl w4.heap.size _ rfl rfl 23 _ q6z hi8 rfl ho8 wr (unhide HWR) ?_)
    clear q6z hi8 ho8 HWR
    have tb := tabs.below' hb
    generalize hB0 : w.heap.size = B0 at *
    generalize hB5 : w2.heap.size = B5 at *
    generalize hBc : V.heap.size = Bc at *
    generalize hB6 : w4.heap.size = B6 at *
    have z0 : B0 < wr.heap.size := by omega
    have z5 : B5 < wr.heap.size := by omega
    have zc : Bc < wr.heap.size := by omega
    have HB0 := hide hB0
    clear hB0 hB5 hBc hB6
    have HS : Hid (∀ w', Below wr.heap.size wr w' → w'.cell? ⟨B0, 0, none⟩ = some (.int .u32 (s0.toNat : Int)) ∧ w'.cell? ⟨B0, 1, none⟩ = some (.int .u32 (s1.toNat : Int)) ∧ w'.cell? ⟨B0, 2, none⟩ = some (.int .u32 (s2.toNat : Int)) ∧ w'.cell? ⟨B0, 3, none⟩ = some (.int .u32 (s3.toNat : Int)) ∧ w'.cell? ⟨B0, 4, none⟩ = some (.int .u32 (s4.toNat : Int)) ∧ w'.cell? ⟨B0, 5, none⟩ = some (.int .u32 (s5.toNat : Int)) ∧ w'.cell? ⟨B0, 6, none⟩ = some (.int .u32 (s6.toNat : Int)) ∧ w'.cell? ⟨B0, 7, none⟩ = some (.int .u32 (s7.toNat : Int)) ∧ w'.cell? ⟨B0, 8, none⟩ = some (.string (str rest)) ∧ w'.cell? ⟨B0, 9, none⟩ = some (.int .u64 (count.toNat : Int)) ∧ w'.cell? ⟨B5, 0, none⟩ = some (.int .u32 (r0.toNat : Int)) ∧ w'.cell? ⟨B5, 1, none⟩ = some (.int .u32 (r1.toNat : Int)) ∧ w'.cell? ⟨B5, 2, none⟩ = some (.int .u32 (r2.toNat : Int)) ∧ w'.cell? ⟨B5, 3, none⟩ = some (.int .u32 (r3.toNat : Int)) ∧ w'.cell? ⟨B5, 4, none⟩ = some (.int .u32 (r4.toNat : Int)) ∧ w'.cell? ⟨B5, 5, none⟩ = some (.int .u32 (r5.toNat : Int)) ∧ w'.cell? ⟨B5, 6, none⟩ = some (.int .u32 (r6.toNat : Int)) ∧ w'.cell? ⟨B5, 7, none⟩ = some (.int .u32 (r7.toNat : Int)) ∧ w'.cell? ⟨B5, 8, none⟩ = some (.string (str T2)) ∧ w'.cell? ⟨B5, 9, none⟩ = some (.int .u64 ((add64 count x).toNat : Int)) ∧ w'.cell? ⟨B6, 0, none⟩ = some (.int .u32 (r0.toNat : Int)) ∧ w'.cell? ⟨B6, 1, none⟩ = some (.int .u32 (r1.toNat : Int)) ∧ w'.cell? ⟨B6, 2, none⟩ = some (.int .u32 (r2.toNat : Int)) ∧ w'.cell? ⟨B6, 3, none⟩ = some (.int .u32 (r3.toNat : Int)) ∧ w'.cell? ⟨B6, 4, none⟩ = some (.int .u32 (r4.toNat : Int)) ∧ w'.cell? ⟨B6, 5, none⟩ = some (.int .u32 (r5.toNat : Int)) ∧ w'.cell? ⟨B6, 6, none⟩ = some (.int .u32 (r6.toNat : Int)) ∧ w'.cell? ⟨B6, 7, none⟩ = some (.int .u32 (r7.toNat : Int)) ∧ Bytes w' Bc off' T2) := fun w' hw => by
      have hc0 := fun o => hw.cell (p := ⟨B0, o, none⟩) z0
      have hc5 := fun o => hw.cell (p := ⟨B5, o, none⟩) z5
      have hc6 := fun o => hw.cell (p := ⟨B6, o, none⟩) zr
      simp only [hc0, hc5, hc6]
      exact ⟨cell_of_row _ _ _ _ _ _ p0, cell_of_row _ _ _ _ _ _ p0, cell_of_row _ _ _ _ _ _ p0, cell_of_row _ _ _ _ _ _ p0, cell_of_row _ _ _ _ _ _ p0, cell_of_row _ _ _ _ _ _ p0, cell_of_row _ _ _ _ _ _ p0, cell_of_row _ _ _ _ _ _ p0, cell_of_row _ _ _ _ _ _ p0, cell_of_row _ _ _ _ _ _ p0, cell_of_row _ _ _ _ _ _ p5, cell_of_row _ _ _ _ _ _ p5, cell_of_row _ _ _ _ _ _ p5, cell_of_row _ _ _ _ _ _ p5, cell_of_row _ _ _ _ _ _ p5, cell_of_row _ _ _ _ _ _ p5, cell_of_row _ _ _ _ _ _ p5, cell_of_row _ _ _ _ _ _ p5, cell_of_row _ _ _ _ _ _ p5, cell_of_row _ _ _ _ _ _ p5, cell_of_row _ _ _ _ _ _ p6, cell_of_row _ _ _ _ _ _ p6, cell_of_row _ _ _ _ _ _ p6, cell_of_row _ _ _ _ _ _ p6, cell_of_row _ _ _ _ _ _ p6, cell_of_row _ _ _ _ _ _ p6, cell_of_row _ _ _ _ _ _ p6, cell_of_row _ _ _ _ _ _ p6, pby.below hw zc⟩
    have Hawk : Hid (∀ w3, Below wr.heap.size wr w3 → Calls Tryd.prog 14 #[] w3 fun e w' => e = .returned (.bool true) ∧ Below wr.heap.size wr w' ∧ Below w3.heap.size w3 w') := fun w3 h3 => by
      refine (awake_calls _ (tb.below' h3)).mono ?_
      rintro en w' ⟨rfl, hb⟩
      exact ⟨rfl, h3.trans (hb.mono h3.size), hb⟩
    have hEl := pEnd_length ⟨⟨s0, s1, s2, s3, s4, s5, s6, s7⟩, rest, count⟩
    generalize hE : pEnd ⟨⟨s0, s1, s2, s3, s4, s5, s6, s7⟩, rest, count⟩ = E at *
    have Hend : Hid (∀ w3, Below wr.heap.size wr w3 → Calls Tryd.prog 23 #[.agg #[.int .u32 (s0.toNat : Int), .int .u32 (s1.toNat : Int), .int .u32 (s2.toNat : Int), .int .u32 (s3.toNat : Int), .int .u32 (s4.toNat : Int), .int .u32 (s5.toNat : Int), .int .u32 (s6.toNat : Int), .int .u32 (s7.toNat : Int), .string (str rest), .int .u64 (count.toNat : Int)]] w3 fun e w' => e = .returned (.agg (bc E)) ∧ Below wr.heap.size wr w' ∧ Below w3.heap.size w3 w') := fun w3 h3 => by
      refine (end_calls ⟨⟨s0, s1, s2, s3, s4, s5, s6, s7⟩, rest, count⟩ (by show rest.length ≤ _; omega) _ (tb.below' h3)).mono ?_
      rintro en w' ⟨rfl, hb⟩
      rw [hE]
      exact ⟨rfl, h3.trans (hb.mono h3.size), hb⟩
    have Hrend : Hid (∀ w3 g cap, Below wr.heap.size wr w3 → Bytes w3 g 0 rest ∧ g < w3.heap.size → Calls Tryd.prog 24 #[.agg #[.int .u32 (s0.toNat : Int), .int .u32 (s1.toNat : Int), .int .u32 (s2.toNat : Int), .int .u32 (s3.toNat : Int), .int .u32 (s4.toNat : Int), .int .u32 (s5.toNat : Int), .int .u32 (s6.toNat : Int), .int .u32 (s7.toNat : Int)], .slice (some ⟨g, 0, none⟩) rest.length cap, .int .u64 (count.toNat : Int)] w3 fun e w' => e = .returned (.agg (bc E)) ∧ Below wr.heap.size wr w' ∧ Below w3.heap.size w3 w') := fun w3 g cap h3 h2 => by
      refine (rend_calls ⟨s0, s1, s2, s3, s4, s5, s6, s7⟩ rest count g 0 cap (by omega) _ h2.2 h2.1).mono ?_
      rintro en w' ⟨rfl, hb⟩
      rw [hE]
      exact ⟨rfl, h3.trans (hb.mono h3.size), hb⟩
    have Hbeg : Hid (∀ w3, Below wr.heap.size wr w3 → Calls Tryd.prog 25 #[] w3 fun e w' => e = .returned (.agg #[.int .u32 1779033703, .int .u32 3144134277, .int .u32 1013904242, .int .u32 2773480762, .int .u32 1359893119, .int .u32 2600822924, .int .u32 528734635, .int .u32 1541459225, .string ⟨#[]⟩, .int .u64 0]) ∧ Below wr.heap.size wr w' ∧ Below w3.heap.size w3 w') := fun w3 h3 => by
      refine (begin_calls _ (tb.below' h3)).mono ?_
      rintro en w' ⟨rfl, hb⟩
      exact ⟨rfl, h3.trans (hb.mono h3.size), hb⟩
    have Hfst : Hid (∀ w3, Below wr.heap.size wr w3 → Calls Tryd.prog 26 #[] w3 fun e w' => e = .returned (.agg #[.int .u32 1779033703, .int .u32 3144134277, .int .u32 1013904242, .int .u32 2773480762, .int .u32 1359893119, .int .u32 2600822924, .int .u32 528734635, .int .u32 1541459225]) ∧ Below wr.heap.size wr w' ∧ Below w3.heap.size w3 w') := fun w3 h3 => by
      refine (first_calls _).mono ?_
      rintro en w' ⟨rfl, hb⟩
      exact ⟨rfl, h3.trans (hb.mono h3.size), hb⟩
    have eq1 := digest_eql E hEl
    have eq2 : ∀ w, (binOp .eql 23 (.agg #[.int .u32 (r0.toNat : Int), .int .u32 (r1.toNat : Int), .int .u32 (r2.toNat : Int), .int .u32 (r3.toNat : Int), .int .u32 (r4.toNat : Int), .int .u32 (r5.toNat : Int), .int .u32 (r6.toNat : Int), .int .u32 (r7.toNat : Int)]) (.agg #[.int .u32 (r0.toNat : Int), .int .u32 (r1.toNat : Int), .int .u32 (r2.toNat : Int), .int .u32 (r3.toNat : Int), .int .u32 (r4.toNat : Int), .int .u32 (r5.toNat : Int), .int .u32 (r6.toNat : Int), .int .u32 (r7.toNat : Int)])).run Tryd.prog w = .ok (.bool true) w := words_eql (S8.mk r0 r1 r2 r3 r4 r5 r6 r7).list rfl
    have eq3 : ∀ w, (binOp .eql 37 (.agg #[.int .u32 1779033703, .int .u32 3144134277, .int .u32 1013904242, .int .u32 2773480762, .int .u32 1359893119, .int .u32 2600822924, .int .u32 528734635, .int .u32 1541459225, .string ⟨#[]⟩, .int .u64 0]) (.agg #[.int .u32 1779033703, .int .u32 3144134277, .int .u32 1013904242, .int .u32 2773480762, .int .u32 1359893119, .int .u32 2600822924, .int .u32 528734635, .int .u32 1541459225, .string ⟨#[]⟩, .int .u64 0])).run Tryd.prog w = .ok (.bool true) w := state_eql pBegin (by decide)
    have hcv := conv_run rest
    have hbk : ∀ w', Bytes w' Bc off' T2 → (convert 27 9 (.slice (some ⟨Bc, off', none⟩) T2.length cap')).run Tryd.prog w' = .ok (.string (str T2)) w' := fun w' h => back_run w' Bc off' cap' T2 h
    have aw := a64_wrap
    clear hE p0 p5 p6 pby tb hEl hT2 hc4
    go_wp2_with fail
    go_region_held (fun w' => w'.cell? ⟨B0, 0, none⟩ = some (.int .u32 (s0.toNat : Int)) ∧ w'.cell? ⟨B0, 1, none⟩ = some (.int .u32 (s1.toNat : Int)) ∧ w'.cell? ⟨B0, 2, none⟩ = some (.int .u32 (s2.toNat : Int)) ∧ w'.cell? ⟨B0, 3, none⟩ = some (.int .u32 (s3.toNat : Int)) ∧ w'.cell? ⟨B0, 4, none⟩ = some (.int .u32 (s4.toNat : Int)) ∧ w'.cell? ⟨B0, 5, none⟩ = some (.int .u32 (s5.toNat : Int)) ∧ w'.cell? ⟨B0, 6, none⟩ = some (.int .u32 (s6.toNat : Int)) ∧ w'.cell? ⟨B0, 7, none⟩ = some (.int .u32 (s7.toNat : Int)) ∧ w'.cell? ⟨B0, 8, none⟩ = some (.string (str rest)) ∧ w'.cell? ⟨B0, 9, none⟩ = some (.int .u64 (count.toNat : Int)) ∧ w'.cell? ⟨B5, 0, none⟩ = some (.int .u32 (r0.toNat : Int)) ∧ w'.cell? ⟨B5, 1, none⟩ = some (.int .u32 (r1.toNat : Int)) ∧ w'.cell? ⟨B5, 2, none⟩ = some (.int .u32 (r2.toNat : Int)) ∧ w'.cell? ⟨B5, 3, none⟩ = some (.int .u32 (r3.toNat : Int)) ∧ w'.cell? ⟨B5, 4, none⟩ = some (.int .u32 (r4.toNat : Int)) ∧ w'.cell? ⟨B5, 5, none⟩ = some (.int .u32 (r5.toNat : Int)) ∧ w'.cell? ⟨B5, 6, none⟩ = some (.int .u32 (r6.toNat : Int)) ∧ w'.cell? ⟨B5, 7, none⟩ = some (.int .u32 (r7.toNat : Int)) ∧ w'.cell? ⟨B5, 8, none⟩ = some (.string (str T2)) ∧ w'.cell? ⟨B5, 9, none⟩ = some (.int .u64 ((add64 count x).toNat : Int)) ∧ w'.cell? ⟨B6, 0, none⟩ = some (.int .u32 (r0.toNat : Int)) ∧ w'.cell? ⟨B6, 1, none⟩ = some (.int .u32 (r1.toNat : Int)) ∧ w'.cell? ⟨B6, 2, none⟩ = some (.int .u32 (r2.toNat : Int)) ∧ w'.cell? ⟨B6, 3, none⟩ = some (.int .u32 (r3.toNat : Int)) ∧ w'.cell? ⟨B6, 4, none⟩ = some (.int .u32 (r4.toNat : Int)) ∧ w'.cell? ⟨B6, 5, none⟩ = some (.int .u32 (r5.toNat : Int)) ∧ w'.cell? ⟨B6, 6, none⟩ = some (.int .u32 (r6.toNat : Int)) ∧ w'.cell? ⟨B6, 7, none⟩ = some (.int .u32 (r7.toNat : Int)) ∧ Bytes w' Bc off' T2)
      (exact unhide HS _ (by (repeat' (first | with_reducible assumption | with_reducible exact Below.refl _ _ | with_reducible refine Below.drew ?_ | with_reducible refine bworld_below _ ?_ ?_ | with_reducible refine Below.alloc ?_ ?_ _ | with_reducible exact Nat.le_refl _ | with_reducible exact Below.size (by with_reducible assumption)))))
      (first
        | (go_at_call 14; refine (unhide Hawk _ ?_).mono ?_; (repeat' (first | with_reducible assumption | with_reducible exact Below.refl _ _ | with_reducible refine Below.drew ?_ | with_reducible refine bworld_below _ ?_ ?_ | with_reducible refine Below.alloc ?_ ?_ _ | with_reducible exact Nat.le_refl _ | with_reducible exact Below.size (by with_reducible assumption))); rintro e w' ⟨rfl, hbb, hbc⟩; clear hbc)
        | (go_at_call 23; refine (unhide Hend _ ?_).mono ?_; (repeat' (first | with_reducible assumption | with_reducible exact Below.refl _ _ | with_reducible refine Below.drew ?_ | with_reducible refine bworld_below _ ?_ ?_ | with_reducible refine Below.alloc ?_ ?_ _ | with_reducible exact Nat.le_refl _ | with_reducible exact Below.size (by with_reducible assumption))); rintro e w' ⟨rfl, hbb, hbc⟩; obtain ⟨hk, hkz⟩ := bworld_kept hbc; clear hbc)
        | (go_at_call 23; refine (unhide Hend _ ?_).mono ?_; (repeat' (first | with_reducible assumption | with_reducible exact Below.refl _ _ | with_reducible refine Below.drew ?_ | with_reducible refine bworld_below _ ?_ ?_ | with_reducible refine Below.alloc ?_ ?_ _ | with_reducible exact Nat.le_refl _ | with_reducible exact Below.size (by with_reducible assumption))); rintro e w' ⟨rfl, hbb, hbc⟩; clear hbc)
        | (go_at_call 24; refine (unhide Hrend _ _ _ ?_ ?_).mono ?_; (repeat' (first | with_reducible assumption | with_reducible exact Below.refl _ _ | with_reducible refine Below.drew ?_ | with_reducible refine bworld_below _ ?_ ?_ | with_reducible refine Below.alloc ?_ ?_ _ | with_reducible exact Nat.le_refl _ | with_reducible exact Below.size (by with_reducible assumption))); (first | exact ⟨bworld_bytes _ _, by rw [bworld_size]; exact Nat.lt_succ_self _⟩ | exact ⟨unhide hk, hkz⟩); rintro e w' ⟨rfl, hbb, hbc⟩; clear hbc)
        | (go_at_call 25; refine (unhide Hbeg _ ?_).mono ?_; (repeat' (first | with_reducible assumption | with_reducible exact Below.refl _ _ | with_reducible refine Below.drew ?_ | with_reducible refine bworld_below _ ?_ ?_ | with_reducible refine Below.alloc ?_ ?_ _ | with_reducible exact Nat.le_refl _ | with_reducible exact Below.size (by with_reducible assumption))); rintro e w' ⟨rfl, hbb, hbc⟩; clear hbc)
        | (go_at_call 26; refine (unhide Hfst _ ?_).mono ?_; (repeat' (first | with_reducible assumption | with_reducible exact Below.refl _ _ | with_reducible refine Below.drew ?_ | with_reducible refine bworld_below _ ?_ ?_ | with_reducible refine Below.alloc ?_ ?_ _ | with_reducible exact Nat.le_refl _ | with_reducible exact Below.size (by with_reducible assumption))); rintro e w' ⟨rfl, hbb, hbc⟩; clear hbc))
    all_goals go_wp2
    all_goals go_ret
    all_goals refine ⟨rfl, ?_⟩
    all_goals rw [unhide HB0]
    all_goals refine hb.trans (Below.mono ?_ (Nat.le_of_lt z0))
    all_goals (repeat' (first | with_reducible assumption | with_reducible exact Below.refl _ _ | with_reducible refine Below.drew ?_ | with_reducible refine bworld_below _ ?_ ?_ | with_reducible refine Below.alloc ?_ ?_ _ | with_reducible exact Nat.le_refl _ | with_reducible exact Below.size (by with_reducible assumption)))
end Go.Proofs.YtfobcchiakjhgaaDoor
