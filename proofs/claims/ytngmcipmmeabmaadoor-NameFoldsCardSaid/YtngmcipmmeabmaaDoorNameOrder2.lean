/-
  WHAT name's Order RETURNS.
-/
import Derived.Test.YtngmcipmmeabmaaDoorNameOrder
namespace Go.Proofs.YtngmcipmmeabmaaDoor
open Go.RowKit
set_option linter.unusedSimpArgs false
set_option linter.unusedVariables false

theorem UTabs.below' {w w' : World} (h : UTabs w) (hb : Below w.heap.size w w') : UTabs w' := by
  obtain ⟨h1, h2⟩ := h
  refine ⟨fun c hc => ?_, fun i hi => ?_⟩
  · rw [hb.cell (p := ⟨_, c, none⟩) (block_lt_of_cell (h1 c hc))]; exact h1 c hc
  · exact ⟨by rw [hb.cell (p := ⟨_, _, none⟩) (block_lt_of_cell (h2 i hi).1)]; exact (h2 i hi).1, by rw [hb.cell (p := ⟨_, _, none⟩) (block_lt_of_cell (h2 i hi).2)]; exact (h2 i hi).2⟩
set_option maxHeartbeats 4000000 in
set_option maxRecDepth 100000 in
theorem order_calls (a b : List UInt8) (ha : a.length ≤ 1000000) (hb0 : b.length ≤ 1000000) (w : World) (hT : UTabs w) :
    Calls Tryd.prog 20 #[.string (str a), .string (str b)] w fun e w' => e = .returned (.int .i64 (ordN (nums a) (nums b))) ∧ Below w.heap.size w w' := by
  have hsz : (str a).size = a.length := str_size a
  have hdec : ∀ pos, Utf8.decode (str a) pos = Lib.decodeL (a.drop pos) := fun pos => by rw [← Lib.decodeL_drop, str_toList]
  have hpl := fun k r hk w => place_calls a k r hk (by omega) w
  generalize hs : str a = s at *
  generalize hR : ordN (nums a) (nums b) = R
  have HR := hide hR
  have Hs := hide hs
  have Hsz := hide hsz
  have Hdec := hide hdec
  have Hpl := hide hpl
  have HT := hide hT
  clear hs hsz hR hdec hpl hT
  go_enter Tryd.func20, Tryd.ntmps20
  go_wp2
  go_loopw [] (fun wr => ∃ pos : Nat, wr.heap[w.heap.size]? = some (.stringIter s pos) ∧ Below w.heap.size w wr ∧ pos ≤ a.length ∧ pos ≤ b.length ∧ Hid (R = ordN (nums (a.drop pos)) (nums (b.drop pos)))) (fun wr => a.length - wr.iterPos w.heap.size)
  case atStart =>
    refine ⟨0, ?_, (Below.refl _ w).alloc (Nat.le_refl _) _, by omega, by omega, (unhide HR).symm⟩
    have := World.iter_heap w s 0
    simpa using this
  case round =>
    obtain ⟨pos, hit, hb, hpa, hpb, hX⟩ := hrel
    have hlt : w.heap.size < wr.heap.size := (Array.getElem?_eq_some_iff.1 hit).1
    have hsz := unhide Hsz
    by_cases hp : pos < s.size
    · have hnx : ∀ ty, (Instr.next (.pointer (some ⟨w.heap.size, 0, none⟩)) true ty).run Tryd.prog wr = _ := fun ty => Lib.run_next_any_at wr w.heap.size s pos ty hit hp
      have hd := unhide Hdec pos
      have hap : pos < a.length := by omega
      have hne : a.drop pos ≠ [] := by simp; omega
      have hit2 := Lib.iterAt_heap wr w.heap.size s pos (pos + (Utf8.decode s pos).2) hit
      have hb2 := Lib.below_iterAt hb (k := w.heap.size) (Nat.le_refl _) s (pos + (Utf8.decode s pos).2)
      have cP := fun w => unhide Hpl pos (Utf8.decode s pos).1 hap w
      rw [hd, place_num a pos hap] at cP
      rw [hd] at hit2 hb2 hnx
      have hw1 := Lib.decodeL_width (a.drop pos)
      have hw2 := Lib.decodeL_le (a.drop pos) hne
      rw [List.length_drop] at hw2
      have hX1 := unhide hX
      rw [nums_cons _ hne, List.drop_drop] at hX1
      have hnt := num_tok (a.drop pos) (b.drop pos) hne
      have hfp : b.drop pos ≠ [] → fp (b.drop pos) = (tokNum (headTok (b.drop pos)) : Int) := fp_some _
      have hfp0 : b.drop pos = [] → fp (b.drop pos) = -1 := fun h => by rw [h]; rfl
      have hnb : b.drop pos ≠ [] → nums (b.drop pos) = tokNum (headTok (b.drop pos)) :: nums (b.drop (pos + (Lib.decodeL (b.drop pos)).2)) := fun h => by rw [nums_cons _ h, List.drop_drop]
      have hbw : b.drop pos ≠ [] → pos + (Lib.decodeL (b.drop pos)).2 ≤ b.length := fun h => by
        have h3 := Lib.decodeL_le (b.drop pos) h
        rw [List.length_drop] at h3; omega
      have cF := fun w hT => firstPlace_calls (b.drop pos) (by rw [List.length_drop]; omega) w hT
      have ed := drop_str b pos _ rfl
      have hxb : tokNum (headTok (a.drop pos)) < 2000256 := (tokNum_lt (a.drop pos) _ (by rw [tk_cons _ hne]; simp)).2
      generalize hr : (Lib.decodeL (a.drop pos)).1 = r at *
      generalize hwd : (Lib.decodeL (a.drop pos)).2 = wd at *
      generalize tokNum (headTok (a.drop pos)) = x at *
      generalize hW : wr.iterAt w.heap.size s (pos + wd) = W at *
      have kP : Hid (∀ dd os, Calls Tryd.prog 49 #[.string s, .int .i64 (pos : Int), .int .i32 (r : Int)] (Sort.grow (redrawn W dd) os) fun e w'' => e = .returned (.int .i32 (x : Int)) ∧ ∃ p : Regrown, w'' = Sort.grow (redrawn W p.d) p.os) := fun dd os => Calls.regrown_of ((cP _).mono fun e w' h => ⟨h.1, by rw [h.2]; exact Below.refl _ _⟩)
      have kF : Hid (∀ dd os, Calls Tryd.prog 50 #[.string (str (b.drop pos))] (Sort.grow (redrawn W dd) os) fun e w'' => e = .returned (.int .i32 (fp (b.drop pos))) ∧ ∃ p : Regrown, w'' = Sort.grow (redrawn W p.d) p.os) := fun dd os => Calls.regrown_of (cF _ ((unhide HT).below' (hb2.trans ((below_regrown W dd os).mono hb2.size))))
      have bp : (pos : Int) ≤ (b.length : Int) := by omega
      have Hit2 := hide hit2
      have Hb2 := hide hb2
      clear cP cF hd hit2 hb2 hr hW hne hsz
      by_cases hbe : b.drop pos = []
      · have hy := hfp0 hbe
        rw [hy] at kF
        have hRv : R = 1 := by rw [hX1, hbe, nums_nil]; rfl
        subst hRv
        have d1 : decide ((x : Int) < -1) = false := decide_eq_false (by omega)
        have d2 : decide ((-1 : Int) < (x : Int)) = true := decide_eq_true (by omega)
        clear hX1 hX hnt hfp hfp0 hnb hbw hbe HR hy
        go_wp2_with fail
        refine wp_region_below (show Tryd.prog.follows .mixedOrders = true by kernel_rfl) (by kernel_rfl) ?_
        quiet_step (fail)
        quiet_step (fail)
        quiet_step (fail)
        quiet_step (exact unhide kP _ _)
        quiet_step (fail)
        quiet_step (fail)
        quiet_step (fail)
        quiet_step (exact unhide kF _ _)
        quiet_step (fail)
        quiet_step (fail)
        refine wpQuiet_nil ?_
        intro w3 hb3
        have b3 := (unhide Hb2).trans (hb3.mono (unhide Hb2).size)
        clear kP kF
        go_wp2
        go_ret
        exact ⟨rfl, b3⟩
      · have hy := hfp hbe
        have hnb2 := hnb hbe
        have hnt2 := hnt hbe
        have hbw2 := hbw hbe
        rw [hy] at kF
        rw [hnb2] at hX1
        have hzb : tokNum (headTok (b.drop pos)) < 2000256 := (tokNum_lt (b.drop pos) _ (by rw [tk_cons _ hbe]; simp)).2
        generalize tokNum (headTok (b.drop pos)) = z at *
        by_cases hxz : x < z
        · have hRv : R = -1 := by rw [hX1, ordN, if_pos hxz]
          subst hRv
          have d1 : decide (x < z) = true := by simpa using hxz
          clear hX1 hX hnt hfp hfp0 hnb hbw hbe HR hy hnt2 hnb2
          go_wp2_with fail
          refine wp_region_below (show Tryd.prog.follows .mixedOrders = true by kernel_rfl) (by kernel_rfl) ?_
          quiet_step (fail)
          quiet_step (fail)
          quiet_step (fail)
          quiet_step (exact unhide kP _ _)
          quiet_step (fail)
          quiet_step (fail)
          quiet_step (fail)
          quiet_step (exact unhide kF _ _)
          quiet_step (fail)
          quiet_step (fail)
          refine wpQuiet_nil ?_
          intro w3 hb3
          have b3 := (unhide Hb2).trans (hb3.mono (unhide Hb2).size)
          clear kP kF
          go_wp2
          go_ret
          exact ⟨rfl, b3⟩
        · have d1 : decide (x < z) = false := by simpa using hxz
          by_cases hzx : z < x
          · have hRv : R = 1 := by rw [hX1, ordN, if_neg hxz, if_pos hzx]
            subst hRv
            have d2 : decide (z < x) = true := by simpa using hzx
            clear hX1 hX hnt hfp hfp0 hnb hbw hbe HR hy hnt2 hnb2
            go_wp2_with fail
            refine wp_region_below (show Tryd.prog.follows .mixedOrders = true by kernel_rfl) (by kernel_rfl) ?_
            quiet_step (fail)
            quiet_step (fail)
            quiet_step (fail)
            quiet_step (exact unhide kP _ _)
            quiet_step (fail)
            quiet_step (fail)
            quiet_step (fail)
            quiet_step (exact unhide kF _ _)
            quiet_step (fail)
            quiet_step (fail)
            refine wpQuiet_nil ?_
            intro w3 hb3
            have b3 := (unhide Hb2).trans (hb3.mono (unhide Hb2).size)
            clear kP kF
            go_wp2
            go_ret
            exact ⟨rfl, b3⟩
          · have d2 : decide (z < x) = false := by simpa using hzx
            have hwe := (hnt2 (by omega)).2
            rw [← hwe] at hX1 hbw2
            have hX3 : R = ordN (nums (a.drop (pos + wd))) (nums (b.drop (pos + wd))) := by rw [hX1, ordN, if_neg hxz, if_neg hzx]
            have HX3 := hide hX3
            have hlen2 : pos + wd ≤ a.length ∧ pos + wd ≤ b.length := ⟨by omega, hbw2⟩
            clear hX1 hX3 hX hnt hfp hfp0 hnb hbw hbe HR hy hnt2 hnb2 hwe hwd hbw2 hw2
            go_wp2_with fail
            refine wp_region_below (show Tryd.prog.follows .mixedOrders = true by kernel_rfl) (by kernel_rfl) ?_
            quiet_step (fail)
            quiet_step (fail)
            quiet_step (fail)
            quiet_step (exact unhide kP _ _)
            quiet_step (fail)
            quiet_step (fail)
            quiet_step (fail)
            quiet_step (exact unhide kF _ _)
            quiet_step (fail)
            quiet_step (fail)
            refine wpQuiet_nil ?_
            intro w3 hb3
            have b3 := (unhide Hb2).trans (hb3.mono (unhide Hb2).size)
            have it3 := Below.at hb3 (Array.getElem?_eq_some_iff.1 (unhide Hit2)).1 (unhide Hit2)
            have IT3 := hide it3
            clear kP kF it3
            go_wp2
            refine ⟨⟨pos + wd, unhide IT3, b3, hlen2.1, hlen2.2, HX3⟩, ?_⟩
            simp only [World.iterPos, unhide IT3, hit]; omega
    · have hnx : ∀ ty, (Instr.next (.pointer (some ⟨w.heap.size, 0, none⟩)) true ty).run Tryd.prog wr = _ := fun ty => Lib.run_next_end_at wr w.heap.size s pos ty hit hp
      have hX1 := unhide hX
      have hpe : pos = a.length := by omega
      rw [List.drop_of_length_le (show a.length ≤ pos by omega), nums_nil] at hX1
      have hsl : (str a).size = a.length := str_size a
      by_cases hab : a.length < b.length
      · have hne : b.drop pos ≠ [] := by simp; omega
        have hRv : R = -1 := by rw [hX1, nums_cons _ hne]; rfl
        subst hRv
        have d1 : decide (a.length < b.length) = true := by simpa using hab
        have hss := unhide Hsz
        clear hX1 hX HR hne hpe
        go_wp2
        go_ret
        exact ⟨rfl, hb⟩
      · have hbe : b.drop pos = [] := by rw [List.drop_eq_nil_iff]; omega
        have hRv : R = 0 := by rw [hX1, hbe]; rfl
        subst hRv
        have d1 : decide (a.length < b.length) = false := by simpa using hab
        have hss := unhide Hsz
        clear hX1 hX HR hbe hpe
        go_wp2
        go_ret
        exact ⟨rfl, hb⟩
end Go.Proofs.YtngmcipmmeabmaaDoor
