/-
  THE WALK OF THE LAW ShaTexts: whatever the digest and the text, it returns true, and nothing that was there has turned.
-/
import Derived.Test.YtfobcchiakjhgaaDoorShaLaw
import Derived.Test.YtfobcchiakjhgaaDoorRefRead
namespace Go.Proofs.YtfobcchiakjhgaaDoor
open Go.RowKit
set_option linter.unusedSimpArgs false
set_option linter.unusedVariables false

theorem wpList_store_row_at {P : Program} {ops : Array Oper} {rest : List Oper} {o : Oper} {a : Act} {w : World} {Q : Exit → Act → World → Prop} (hgd : o.guard = none) (ty : TypeId) (x y : Operand) (ho : o.op = .store ty x y)
    (g : Nat) (cells : Array Value) (hx : a.eval x = .pointer (some ⟨g, 0, none⟩)) (hy : a.eval y = .agg cells)
    (t : TypeId) (old : Array Value) (hg : w.heap[g]? = some (.cells old t (0, 0))) (hi : (P.info? ty).map (·.size) = some cells.size)
    (hold : old.size = cells.size) (h1 : cells.all (·.oneCell') = true) (V : World) (hV : V = w.setRow g cells)
    (h : wpList P ops Q rest (a.put o.dst undef) V) : wpList P ops Q (o :: rest) a w := by
  subst hV
  exact wpList_store_row hgd ty x y ho g cells hx hy t old hg hi hold h1 h
/-- A row loaded whole where a guard is met. -/
theorem wpList_load_row_g {P : Program} {ops : Array Oper} {rest : List Oper} {o : Oper} {a : Act} {w : World} {Q : Exit → Act → World → Prop} (hw : Region.wanted o (yielded ops a.tmps) = true) (ty : TypeId) (x : Operand) (ho : o.op = .load ty x)
    (g : Nat) (hx : a.eval x = .pointer (some ⟨g, 0, none⟩)) (t : TypeId) (cs : Array Value) (fr : Nat × Nat) (d : TypeDesc) (hg : w.heap[g]? = some (.cells cs t fr))
    (hu : P.underlying ty = some d) (hd : (match d with | .struct _ | .array _ _ => true | _ => false) = true) (hi : (P.info? ty).map (·.size) = some cs.size)
    (h : wpList P ops Q rest (a.put o.dst (.agg cs)) w) : wpList P ops Q (o :: rest) a w :=
  wpList_step fun K hK => by
    rw [if_pos hw]
    exact wp_load_row ty x ho g hx t cs fr d hg hu hd hi (hK _ _ h)
/-- A new row, laid and filled. -/
theorem fresh_row (w : World) (z c : Array Value) (t : TypeId) (hz : (w.alloc (.cells z t)).heap[w.heap.size]? = some (.cells z t (0, 0))) :
    ∃ V, V = (w.alloc (.cells z t)).setRow w.heap.size c ∧ V.heap[w.heap.size]? = some (.cells c t (0, 0)) ∧ Below w.heap.size w V ∧ w.heap.size < V.heap.size :=
  ⟨_, rfl, setRow_heap _ _ _ _ _ _ hz, below_setRow ((Below.refl _ _).alloc (Nat.le_refl _) _) (Nat.le_refl _) _, by rw [setRow_size]; simp⟩

set_option maxHeartbeats 4000000 in
set_option maxRecDepth 100000 in
theorem shaTexts_walk (d : List UInt8) (hd : d.length = 32) (l : List UInt8) (hl : l.length ≤ maxLen) (w : World) (tabs : Tabs w) :
    Calls Tryd.prog 7 #[.agg (bc d), .string (str l)] w fun e w' => e = .returned (.bool true) ∧ Below w.heap.size w w' := by
  have hlm := hl
  unfold maxLen at hl
  have q0 := al1 w (.cells (bc d) 29)
  have hb0 := (Below.refl w.heap.size w).alloc (Nat.le_refl _) (.cells (bc d) 29)
  have hz0 : w.heap.size < (w.alloc (.cells (bc d) 29)).heap.size := by simp
  have Hd := hide hd
  clear hd
  by_cases hbig : 1000 < l.length
  · have hdd : decide ((1000 : Int) < (l.length : Int)) = true := by simp; omega
    go_enter Tryd.func7, Tryd.ntmps7
    go_wp2_with fail
    refine (awake_calls _ (tabs.below' hb0)).mono ?_
    rintro en w1 ⟨rfl, hb1⟩
    have hb1' := hb0.trans (hb1.mono hb0.size)
    clear q0 hb1
    go_wp2_with fail
    refine (awake_calls _ (tabs.below' hb1')).mono ?_
    rintro en w2 ⟨rfl, hb2⟩
    go_wp2
    go_ret
    exact ⟨rfl, hb1'.trans (hb2.mono hb1'.size)⟩
  · have hdd : decide ((1000 : Int) < (l.length : Int)) = false := by simp; omega
    have hXl := pRead_length l
    have hok : (pRead l).2 = true → pText (pRead l).1 = l := fun h => by
      unfold pRead at h ⊢
      by_cases hc : l.length = 64 ∧ good l = true
      · rw [if_pos hc]; exact text_read l hc.1 ((good_iff l).1 hc.2)
      · rw [if_neg hc] at h; cases h
    have Hrd : Hid (∀ w, Calls Tryd.prog 27 #[.string (str l)] w fun e w' => e = .returned (.tuple #[.agg (bc (pRead l).1), .bool (pRead l).2]) ∧ Below w.heap.size w w') := read_calls l hlm
    have Hrr : Hid (∀ w, Calls Tryd.prog 28 #[.string (str l)] w fun e w' => e = .returned (.tuple #[.agg (bc (pRead l).1), .bool (pRead l).2]) ∧ Below w.heap.size w w') := rread_calls l hlm
    generalize pRead l = R at *
    obtain ⟨X, ok⟩ := R
    have hXl : X.length = 32 := hXl
    have Hok : Hid (ok = true → pText X = l) := hok
    have hpt : (pText d).length ≤ maxLen := by rw [pText_length, unhide Hd]; unfold maxLen; omega
    have Hrt : Hid (∀ w, Calls Tryd.prog 27 #[.string (str (pText d))] w fun e w' => e = .returned (.tuple #[.agg (bc d), .bool true]) ∧ Below w.heap.size w w') := fun w => by
      have := read_calls (pText d) hpt w
      rw [read_text d (unhide Hd)] at this; exact this
    have hiX : (Tryd.prog.info? 30).map (·.size) = some (bc X).size := by rw [bc_size, hXl]; kernel_rfl
    have hiD : (Tryd.prog.info? 30).map (·.size) = some (bc d).size := by rw [bc_size, unhide Hd]; kernel_rfl
    have hiP : (Tryd.prog.info? 29).map (·.size) = some (bc d).size := by rw [bc_size, unhide Hd]; kernel_rfl
    have hsX : (bc (List.replicate 32 (0 : UInt8))).size = (bc X).size := by rw [bc_size, bc_size, hXl]; rfl
    have hsD : (bc (List.replicate 32 (0 : UInt8))).size = (bc d).size := by rw [bc_size, bc_size, unhide Hd]; rfl
    have hoX := bc_oneCell X
    have hoD := bc_oneCell d
    have eqX := digest_eql X hXl
    have eqD := digest_eql d (unhide Hd)
    have HXl := hide hXl
    clear hok hpt hlm hl hXl hbig
    go_enter Tryd.func7, Tryd.ntmps7
    go_wp2_with fail
    refine (awake_calls _ (tabs.below' hb0)).mono ?_
    rintro en w1 ⟨rfl, hb1⟩
    have a0 := Below.at hb1 hz0 q0
    have hb1' := hb0.trans (hb1.mono hb0.size)
    have z1 : w.heap.size < w1.heap.size := Nat.lt_of_lt_of_le hz0 hb1.size
    clear q0 hb1 hb0 hz0
    go_wp2_with fail
    refine (unhide Hrd _).mono ?_
    rintro en w2 ⟨rfl, hb2⟩
    have b0 := Below.at hb2 z1 a0
    have hb2' := hb1'.trans (hb2.mono hb1'.size)
    have z2 : w.heap.size < w2.heap.size := Nat.lt_of_lt_of_le z1 hb2.size
    have x2 := al1 w2 (.cells (bc (List.replicate 32 0)) 30)
    obtain ⟨V2, hV2, r5, bV2, zV2⟩ := fresh_row w2 _ (bc X) _ x2
    have HV2 := hide hV2
    have c0 := Below.at bV2 z2 b0
    have hb3' := hb2'.trans (bV2.mono hb2'.size)
    clear hV2 a0 b0 hb1' hb2' hb2 bV2
    go_wp2_with (refine wpList_store_row_at rfl 30 (.tmp 5) (.tmp 20) rfl w2.heap.size _ rfl rfl 30 _ x2 hiX hsX hoX V2 (unhide HV2) ?_)
    refine (unhide Hrr _).mono ?_
    rintro en w3 ⟨rfl, hb3⟩
    have z3 : w2.heap.size < w3.heap.size := Nat.lt_of_lt_of_le zV2 hb3.size
    have d0 := Below.at hb3 (by omega) c0
    have d5 := Below.at hb3 zV2 r5
    have hb4' := hb3'.trans (hb3.mono hb3'.size)
    have x3 := al1 w3 (.cells (bc (List.replicate 32 0)) 30)
    obtain ⟨V3, hV3, r7, bV3, zV3⟩ := fresh_row w3 _ (bc X) _ x3
    have HV3 := hide hV3
    have e0 := Below.at bV3 (by omega) d0
    have e5 := Below.at bV3 z3 d5
    have hb5' := hb4'.trans (bV3.mono hb4'.size)
    clear hV3 x2 HV2 c0 r5 d0 d5 hb3 hb3' hb4' bV3
    go_wp2_with (first
      | (refine wpList_store_row_at rfl 30 (.tmp 7) (.tmp 25) rfl w3.heap.size _ rfl rfl 30 _ x3 hiX hsX hoX V3 (unhide HV3) ?_)
      | (refine wpList_load_row rfl 29 (.tmp 2) rfl w.heap.size rfl 29 _ (0, 0) _ e0 Tryd.underlying29 rfl hiP ?_))
    refine (text_calls d (unhide Hd) _).mono ?_
    rintro en w4 ⟨rfl, hb4⟩
    have z4 : w3.heap.size < w4.heap.size := Nat.lt_of_lt_of_le zV3 hb4.size
    have f0 := Below.at hb4 (by omega) e0
    have f5 := Below.at hb4 (by omega) e5
    have f7 := Below.at hb4 zV3 r7
    have hb6' := hb5'.trans (hb4.mono hb5'.size)
    clear x3 HV3 e0 e5 r7 hb4 hb5'
    go_wp2_with fail
    refine (unhide Hrt _).mono ?_
    rintro en w5 ⟨rfl, hb5⟩
    have z5 : w4.heap.size ≤ w5.heap.size := hb5.size
    have g0 := Below.at hb5 (by omega) f0
    have g5 := Below.at hb5 (by omega) f5
    have g7 := Below.at hb5 (by omega) f7
    have hb7' := hb6'.trans (hb5.mono hb6'.size)
    have x5 := al1 w5 (.cells (bc (List.replicate 32 0)) 30)
    obtain ⟨V5, hV5, r9, bV5, zV5⟩ := fresh_row w5 _ (bc d) _ x5
    have HV5 := hide hV5
    have h0 := Below.at bV5 (by omega) g0
    have h5 := Below.at bV5 (by omega) g5
    have h7 := Below.at bV5 (by omega) g7
    have hb8' := hb7'.trans (bV5.mono hb7'.size)
    have t8 := tabs.below' hb8'
    clear hV5 f0 f5 f7 g0 g5 g7 hb5 hb6' hb7' bV5
    go_wp2_with (refine wpList_store_row_at rfl 30 (.tmp 9) (.tmp 31) rfl w5.heap.size _ rfl rfl 30 _ x5 hiD hsD hoD V5 (unhide HV5) ?_)
    refine (awake_calls _ t8).mono ?_
    rintro en w6 ⟨rfl, hb6⟩
    have k0 := Below.at hb6 (by omega) h0
    have k5 := Below.at hb6 (by omega) h5
    have k7 := Below.at hb6 (by omega) h7
    have k9 := Below.at hb6 zV5 r9
    have hb9' := hb8'.trans (hb6.mono hb8'.size)
    have z6 := hb6.size
    clear x5 HV5 h0 h5 h7 r9 hb6 hb8' t8
    cases ok with
    | false =>
      go_wp2_with (first
        | (refine wpList_load_row_g rfl 30 (.tmp 5) rfl w2.heap.size rfl 30 _ (0, 0) _ k5 Tryd.underlying30 rfl hiX ?_)
        | (refine wpList_load_row_g rfl 30 (.tmp 7) rfl w3.heap.size rfl 30 _ (0, 0) _ k7 Tryd.underlying30 rfl hiX ?_)
        | (refine wpList_load_row_g rfl 30 (.tmp 9) rfl w5.heap.size rfl 30 _ (0, 0) _ k9 Tryd.underlying30 rfl hiD ?_)
        | (refine wpList_load_row_g rfl 29 (.tmp 2) rfl w.heap.size rfl 29 _ (0, 0) _ k0 Tryd.underlying29 rfl hiP ?_))
      go_ret
      exact ⟨rfl, hb9'⟩
    | true =>
      have hpl := unhide Hok rfl
      go_wp2_with (first
        | (refine wpList_load_row_g rfl 30 (.tmp 5) rfl w2.heap.size rfl 30 _ (0, 0) _ k5 Tryd.underlying30 rfl hiX ?_)
        | (refine wpList_load_row_g rfl 30 (.tmp 7) rfl w3.heap.size rfl 30 _ (0, 0) _ k7 Tryd.underlying30 rfl hiX ?_)
        | (refine wpList_load_row_g rfl 30 (.tmp 9) rfl w5.heap.size rfl 30 _ (0, 0) _ k9 Tryd.underlying30 rfl hiD ?_)
        | (refine wpList_load_row_g rfl 29 (.tmp 2) rfl w.heap.size rfl 29 _ (0, 0) _ k0 Tryd.underlying29 rfl hiP ?_))
      refine (text_calls X (unhide HXl) _).mono ?_
      rintro en w7 ⟨rfl, hb7⟩
      have m0 := Below.at hb7 (by omega) k0
      have m9 := Below.at hb7 (by omega) k9
      have hbA := hb9'.trans (hb7.mono hb9'.size)
      rw [hpl]
      clear k0 k5 k7 k9 hb7 hb9'
      go_wp2_with (first
        | (refine wpList_load_row_g rfl 30 (.tmp 9) rfl w5.heap.size rfl 30 _ (0, 0) _ m9 Tryd.underlying30 rfl hiD ?_)
        | (refine wpList_load_row_g rfl 29 (.tmp 2) rfl w.heap.size rfl 29 _ (0, 0) _ m0 Tryd.underlying29 rfl hiP ?_))
      go_ret
      exact ⟨rfl, hbA⟩
end Go.Proofs.YtfobcchiakjhgaaDoor
