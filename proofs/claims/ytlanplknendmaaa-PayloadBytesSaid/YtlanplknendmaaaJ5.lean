/-
  PayloadBytes: what any value is as a payload, its bytes, and the payload that any bytes are, as the document says.
-/
/-
  WHAT THE LAWS OF PAYLOADS ARE HANDED, AS AN ARGUMENT.
-/
import Derived.Test.YtlanplknendmaaaJ4
import Derived.Test.YtlanplknendmaaaJ2
import Derived.Deep.Slices
import Derived.Lib.SmallJoins
import Derived.ChangeMaps5
namespace Go.Proofs.Ytlanplknendmaaa
open Go.RowKit
set_option linter.unusedSimpArgs false
set_option linter.unusedVariables false

set_option maxRecDepth 100000 in
theorem pTag_calls (p : Pl) (w : World) :
    Calls Try.prog 14 #[p.val] w fun e w' => e = .returned (.int .i64 (p.fl.k : Int)) ∧ Below w.heap.size w w' := by
  have k := hide fun W => tag_calls p W
  have hk : p.tag = p.fl.k := by cases p <;> rfl
  rw [hk] at k
  have hr := Below.refl w.heap.size w
  generalize p.val = V at *
  generalize (p.fl.k : Int) = K at *
  clear hk
  go_enter Try.func14, Try.ntmps14
  go_wp2_with fail
  refine (unhide k _).mono ?_
  rintro e w1 ⟨rfl, rfl⟩
  go_wp2
  go_ret
  exact ⟨rfl, hr⟩
set_option maxRecDepth 100000 in
theorem pRight_calls' (p : Pl) (hp : p.most 4611686018427387904) (w : World) :
    Calls Try.prog 15 #[p.val] w fun e w' => e = .returned (.bool p.right) ∧ Below w.heap.size w w' := by
  have k := hide fun W => mayBe_calls p hp W
  generalize p.val = V at *
  generalize p.right = R at *
  go_enter Try.func15, Try.ntmps15
  go_wp2_with fail
  refine (unhide k _).mono ?_
  rintro e w1 ⟨rfl, b1⟩
  go_wp2
  go_ret
  exact ⟨rfl, b1⟩
/-- With an error nothing is answered, without one something is. -/
theorem pPRead_nil (l : List UInt8) : ((pPRead l).2 ≠ 0 ∧ (pPRead l).1.val = .nilIface) ∨ ((pPRead l).2 = 0 ∧ ∃ t v, (pPRead l).1.val = .iface t v) := by
  unfold pPRead
  split
  · rename_i h; exact .inl ⟨h, rfl⟩
  · split
    · rename_i h
      refine .inr ⟨rfl, ?_⟩
      generalize (⟨l, 0⟩ : Rd).pl.1 = p at *
      cases p with
      | no => cases h
      | num => cases h
      | tr o a b n => exact ⟨_, _, rfl⟩
      | sa a b => exact ⟨_, _, rfl⟩
      | de o a n => exact ⟨_, _, rfl⟩
    · exact .inl ⟨by decide, rfl⟩
set_option maxHeartbeats 8000000 in
set_option maxRecDepth 100000 in
theorem payloadBytes_walk (x : Ax) (ok : x.ok) (s : List UInt8) (hs : s.length ≤ maxLen) (w : World) :
    Calls Try.prog 3 #[.agg x.cells, .string (str s)] w fun e w' => e = .returned (.bool true) ∧ Below w.heap.size w w' := by
  unfold maxLen at hs
  have A := hide pawake_calls
  have Li := fun W => plight_calls x W
  have hi := ax_info x
  have hb0 := (Below.refl w.heap.size w).alloc (Nat.le_refl _) (.cells x.cells 25)
  have q0 := al1 w (.cells x.cells 25)
  have z0 : w.heap.size < (w.alloc (.cells x.cells 25)).heap.size := by simp
  by_cases hL : (if x.a.length ≤ 2000 then decide (x.b.length ≤ 2000) else false) = true
  · rw [hL] at Li
    have hl : x.a.length ≤ 2000 ∧ x.b.length ≤ 2000 := by
      by_cases a1 : x.a.length ≤ 2000 <;> simp [a1] at hL <;> omega
    have LI := hide Li
    by_cases hs5 : s.length ≤ 5000
    · have hs7 : decide (5000 < (s.length : Int)) = false := by simp; omega
      have T := hide fun W => to_calls x ok W
      have pok := x.pl_ok ok
      have pm := x.pl_most 2000 hl.1 hl.2
      have OP := hide fun W => pof_calls x.pl W
      have B := hide fun W => pbytes_calls x.pl pok (x.pl.most_mono (by decide) pm) W
      have FB := hide fun W => fbytes_calls x.pl pok (x.pl.most_mono (by decide) pm) W
      have TG := hide fun W => pTag_calls x.pl W
      have RI := hide fun W => pRight_calls' x.pl (x.pl.most_mono (by decide) pm) W
      have FR := hide fun W => fright_calls x.pl (x.pl.most_mono (by decide) pm) W
      have C := hide fun W => pread_calls s (by omega) W
      have FC := hide fun W => fread_calls s (by omega) W
      have OY := hide fun W => pof_calls (pPRead s).1 W
      have hle := hide fun W => fl_eql (pPRead s).1.fl (pPRead s).1.fl W
      rw [(pFlEq_iff _ _).2 rfl] at hle
      have hnil := pPRead_nil s
      have fi := fl_info x.pl.fl
      have fo := fl_one x.pl.fl
      have fz : Hid (Fl.zero.cells.size = x.pl.fl.cells.size) := rfl
      have gi := fl_info (pPRead s).1.fl
      have go' := fl_one (pPRead s).1.fl
      have gz : Hid (Fl.zero.cells.size = (pPRead s).1.fl.cells.size) := rfl
      have fc : Hid (x.pl.fl.cells = #[.int .i64 (x.pl.fl.k : Int), .int .u32 (x.pl.fl.o : Int), .string (str x.pl.fl.a), .string (str x.pl.fl.b), .int .u64 (x.pl.fl.n : Int)]) := rfl
      generalize (pPRead s).2 = E at *
      generalize (pPRead s).1.fl.cells = GG at *
      generalize hY : (pPRead s).1.val = Y at *
      generalize x.pl.bytes = v at *
      obtain ⟨v1, v2⟩ := v
      simp only at *
      generalize x.pl.val = V at *
      generalize x.pl.right = R at *
      generalize x.cells = X at *
      generalize x.pl.fl.o = fo1 at *
      generalize x.pl.fl.a = fa1 at *
      generalize x.pl.fl.b = fb1 at *
      generalize x.pl.fl.n = fn1 at *
      generalize x.pl.fl.cells = FF at *
      generalize (x.pl.fl.k : Int) = K at *
      have HN := hide hnil
      clear hL hl Li hs pm pok ok hs5 hY hnil
      go_enter Try.func3, Try.ntmps3
      go_wp2_with fail
      refine (unhide A _).mono ?_
      rintro e w1 ⟨rfl, b1⟩
      have q1 := Below.at b1 z0 q0
      have hb1 := hb0.trans (b1.mono hb0.size)
      clear hb0 q0 z0 b1
      go_wp2_with (refine wpList_load_row rfl 25 (.tmp 2) rfl w.heap.size rfl 25 X (0, 0) _ q1 Try.underlying25 rfl hi ?_)
      refine (unhide LI _).mono ?_
      rintro e w2 ⟨rfl, b2⟩
      have q2 := Below.at b2 (Array.getElem?_eq_some_iff.1 q1).1 q1
      have hb2 := hb1.trans (b2.mono hb1.size)
      clear q1 hb1 b2
      go_wp2_with (refine wpList_load_row rfl 25 (.tmp 2) rfl w.heap.size rfl 25 X (0, 0) _ q2 Try.underlying25 rfl hi ?_)
      refine (unhide T _).mono ?_
      rintro e w3 ⟨rfl, b3⟩
      have hb3 := hb2.trans (b3.mono hb2.size)
      clear q2 hb2 b3
      go_wp2_with fail
      refine (unhide OP _).mono ?_
      rintro e w4 ⟨rfl, b4⟩
      have hb4 := hb3.trans (b4.mono hb3.size)
      clear hb3 b4
      have HF : Hid (∀ Z, Below w4.heap.size w4 Z → Below w.heap.size w Z) := fun Z bZ => hb4.trans (bZ.mono hb4.size)
      go_wp2_with (first
        | (refine wpList_store_newV rfl 29 (.tmp 6) (.tmp 29) rfl w4 Fl.zero.cells _ FF rfl rfl fi (unhide fz) fo ?_; intro Z rZ bZ zZ; have hbZ := unhide HF Z bZ; clear HF bZ zZ hb4))
      obtain ⟨B1, hB1⟩ : ∃ B, w4.heap.size = B := ⟨_, rfl⟩
      rw [hB1] at rZ
      simp only [hB1]
      clear hB1
      refine (unhide B _).mono ?_
      rintro e w5 ⟨rfl, b5⟩
      have r5 := Below.at b5 (Array.getElem?_eq_some_iff.1 rZ).1 rZ
      have hb5 := hbZ.trans (b5.mono hbZ.size)
      clear rZ hbZ b5
      go_wp2_with (refine wpList_load_row rfl 29 (.tmp 6) rfl B1 rfl 29 FF (0, 0) _ r5 Try.underlying29 rfl fi ?_)
      refine (unhide FB _).mono ?_
      rintro e w6 ⟨rfl, b6⟩
      have r6 := Below.at b6 (Array.getElem?_eq_some_iff.1 r5).1 r5
      have hb6 := hb5.trans (b6.mono hb5.size)
      clear r5 hb5 b6
      go_wp2_with fail
      refine (unhide C _).mono ?_
      rintro e w7 ⟨rfl, b7⟩
      have r7 := Below.at b7 (Array.getElem?_eq_some_iff.1 r6).1 r6
      have hb7 := hb6.trans (b7.mono hb6.size)
      clear r6 hb6 b7
      go_wp2_with fail
      refine (unhide FC _).mono ?_
      rintro e w8 ⟨rfl, b8⟩
      have r8 := Below.at b8 (Array.getElem?_eq_some_iff.1 r7).1 r7
      have hb8 := hb7.trans (b8.mono hb7.size)
      clear r7 hb7 b8
      have HF : Hid (∀ Z, Below w8.heap.size w8 Z → Below w.heap.size w Z ∧ Z.heap[B1]? = some (.cells FF 29 (0, 0))) := fun Z bZ => ⟨hb8.trans (bZ.mono hb8.size), Below.at bZ (Array.getElem?_eq_some_iff.1 r8).1 r8⟩
      go_wp2_with (first
        | (refine wpList_store_newV rfl 29 (.tmp 13) (.tmp 48) rfl w8 Fl.zero.cells _ GG rfl rfl gi (unhide gz) go' ?_; intro Z rZ bZ zZ; obtain ⟨hbZ, sZ⟩ := unhide HF Z bZ; clear HF bZ zZ hb8 r8))
      obtain ⟨B2, hB2⟩ : ∃ B, w8.heap.size = B := ⟨_, rfl⟩
      rw [hB2] at rZ
      simp only [hB2]
      clear hB2
      have RF : Hid (∀ w', (∃ p : Regrown, w' = Sort.grow (redrawn Z p.d) p.os) → w'.heap[B1]? = some (.cells FF 29 (0, 0))) := fun w' ⟨p, hp⟩ => by rw [hp]; exact Below.at (below_regrown Z p.d p.os) (Array.getElem?_eq_some_iff.1 sZ).1 sZ
      have RG : Hid (∀ w', (∃ p : Regrown, w' = Sort.grow (redrawn Z p.d) p.os) → w'.heap[B2]? = some (.cells GG 29 (0, 0))) := fun w' ⟨p, hp⟩ => by rw [hp]; exact Below.at (below_regrown Z p.d p.os) (Array.getElem?_eq_some_iff.1 rZ).1 rZ
      have c0 : ∀ d os, (Sort.grow (redrawn Z d) os).cell? ⟨B1, 0, none⟩ = some (.int .i64 K) := fun d os => by
        have := Below.at (below_regrown Z d os) (Array.getElem?_eq_some_iff.1 sZ).1 sZ
        rw [unhide fc] at this
        exact (sig_cell this).1 0 _ rfl
      have kA := hide fun d os => Calls.regrown_of (w := Z) (d := d) (os := os) (unhide A _)
      have kT := hide fun d os => Calls.regrown_of (w := Z) (d := d) (os := os) (unhide TG _)
      have kR := hide fun d os => Calls.regrown_of (w := Z) (d := d) (os := os) (unhide RI _)
      have kF := hide fun d os => Calls.regrown_of (w := Z) (d := d) (os := os) (unhide FR _)
      have kO := hide fun d os => Calls.regrown_of (w := Z) (d := d) (os := os) (unhide OY _)
      clear sZ rZ LI T OP B FB C FC fz gz fo go' hi
      refine wp_region_below mixed (by kernel_rfl) ?_
      quiet_step (exact unhide kA _ _)
      go_big_quiet_step (fail)
      go_big_quiet_step (fail)
      quiet_step (exact unhide kT _ _)
      go_big_quiet_step (fail)
      go_big_quiet_step (fail)
      go_big_quiet_step (fail)
      go_big_quiet_step (fail)
      go_big_quiet_step (fail)
      go_big_quiet_step (fail)
      quiet_step (exact unhide kR _ _)
      refine wpQuiet_load_row rfl 29 (.tmp 6) rfl B1 rfl 29 FF (0, 0) _ (unhide RF) Try.underlying29 rfl fi ?_
      quiet_step (exact unhide kF _ _)
      go_big_quiet_step (fail)
      go_big_quiet_step (fail)
      go_big_quiet_step (fail)
      go_big_quiet_step (fail)
      go_big_quiet_step (fail)
      go_big_quiet_step (fail)
      go_big_quiet_step (fail)
      go_big_quiet_step (fail)
      go_big_quiet_step (fail)
      go_big_quiet_step (fail)
      go_big_quiet_step (fail)
      go_big_quiet_step (fail)
      go_big_quiet_step (fail)
      go_big_quiet_step (fail)
      quiet_step (exact unhide kO _ _)
      refine wpQuiet_load_row rfl 29 (.tmp 13) rfl B2 rfl 29 GG (0, 0) _ (unhide RG) Try.underlying29 rfl gi ?_
      refine wpQuiet_eql rfl 29 29 (.tmp 77) (.tmp 78) rfl _ _ rfl rfl (by kernel_rfl) true (unhide hle) ?_
      quiet_step (fail)
      go_big_quiet_step (fail)
      go_big_quiet_step (fail)
      go_big_quiet_step (fail)
      go_big_quiet_step (fail)
      go_big_quiet_step (fail)
      go_big_quiet_step (fail)
      rcases unhide HN with ⟨hE, hY⟩ | ⟨hE, t, v, hY⟩
      · subst hY
        have hE' : (E == 0) = false := by simpa using hE
        go_big_quiet_step (fail)
        go_big_quiet_step (fail)
        go_big_quiet_step (fail)
        go_big_quiet_step (fail)
        go_big_quiet_step (fail)
        go_big_quiet_step (fail)
        go_big_quiet_step (fail)
        refine wpQuiet_nil ?_
        intro w9 b9
        go_wp2
        go_ret
        exact ⟨rfl, hbZ.trans (b9.mono hbZ.size)⟩
      · subst hY
        have hE' : (E == 0) = true := by simpa using hE
        go_big_quiet_step (fail)
        go_big_quiet_step (fail)
        go_big_quiet_step (fail)
        go_big_quiet_step (fail)
        go_big_quiet_step (fail)
        go_big_quiet_step (fail)
        go_big_quiet_step (fail)
        refine wpQuiet_nil ?_
        intro w9 b9
        go_wp2
        go_ret
        exact ⟨rfl, hbZ.trans (b9.mono hbZ.size)⟩
    · have hs5' : 5000 < s.length := by omega
      have hs7 : decide (5000 < (s.length : Int)) = true := by simp; omega
      generalize x.cells = X at *
      clear hL hl Li hs5 ok hs
      go_enter Try.func3, Try.ntmps3
      go_wp2_with fail
      refine (unhide A _).mono ?_
      rintro e w1 ⟨rfl, b1⟩
      have q1 := Below.at b1 z0 q0
      have hb1 := hb0.trans (b1.mono hb0.size)
      go_wp2_with (refine wpList_load_row rfl 25 (.tmp 2) rfl w.heap.size rfl 25 X (0, 0) _ q1 Try.underlying25 rfl hi ?_)
      refine (unhide LI _).mono ?_
      rintro e w2 ⟨rfl, b2⟩
      go_wp2_with fail
      refine (unhide A _).mono ?_
      rintro e w3 ⟨rfl, b3⟩
      go_wp2_with fail
      go_ret
      have hb2 := hb1.trans (b2.mono hb1.size)
      exact ⟨rfl, hb2.trans (b3.mono hb2.size)⟩
  · rw [Bool.not_eq_true] at hL
    rw [hL] at Li
    have LI := hide Li
    generalize x.cells = X at *
    clear Li hL ok
    go_enter Try.func3, Try.ntmps3
    go_wp2_with fail
    refine (unhide A _).mono ?_
    rintro e w1 ⟨rfl, b1⟩
    have q1 := Below.at b1 z0 q0
    have hb1 := hb0.trans (b1.mono hb0.size)
    go_wp2_with (refine wpList_load_row rfl 25 (.tmp 2) rfl w.heap.size rfl 25 X (0, 0) _ q1 Try.underlying25 rfl hi ?_)
    refine (unhide LI _).mono ?_
    rintro e w2 ⟨rfl, b2⟩
    go_wp2_with fail
    refine (unhide A _).mono ?_
    rintro e w3 ⟨rfl, b3⟩
    go_wp2_with fail
    go_ret
    have hb2 := hb1.trans (b2.mono hb1.size)
    exact ⟨rfl, hb2.trans (b3.mono hb2.size)⟩
end Go.Proofs.Ytlanplknendmaaa

namespace Go.Proofs.Ytlanplknendmaaa
open Go.ChangeShapes Go.WideShapes Go.ChangeAt Go.RowKit
set_option linter.unusedVariables false

theorem array5 {α : Type} {cs : Array α} (h : cs.size = 5) : ∃ c0 c1 c2 c3 c4, cs = #[c0, c1, c2, c3, c4] := by
  obtain ⟨l⟩ := cs
  match l, h with
  | [c0, c1, c2, c3, c4], _ => exact ⟨c0, c1, c2, c3, c4, rfl⟩
theorem trod_struct5 {P : Program} {H : Type} {enc : TypeId × Value → H} {w : World} {base : Nat} {spare : Nat → Bool} {held : Bool} {t : TypeId} {f0 f1 f2 f3 f4 : Field} {fuel : Nat} {cs : List Value} {x : DataW H × List MemPlace} (ht : P.underlying t = some (.struct #[f0, f1, f2, f3, f4])) (h : DataW.trod enc P w base spare held fuel t cs = some x) :
    ∃ y0 y1 y2 y3 y4 n, DataW.trod enc P w base spare held n f0.type ((cs.drop f0.offset).take (P.cellsOf f0.type)) = some y0 ∧
      DataW.trod enc P w base spare held n f1.type ((cs.drop f1.offset).take (P.cellsOf f1.type)) = some y1 ∧ DataW.trod enc P w base spare held n f2.type ((cs.drop f2.offset).take (P.cellsOf f2.type)) = some y2 ∧
      DataW.trod enc P w base spare held n f3.type ((cs.drop f3.offset).take (P.cellsOf f3.type)) = some y3 ∧ DataW.trod enc P w base spare held n f4.type ((cs.drop f4.offset).take (P.cellsOf f4.type)) = some y4 := by
  obtain ⟨xs, n, _, rfl, hl, hlen, hf⟩ := DataW.trod_struct ht h
  match xs, hlen with
  | [y0, y1, y2, y3, y4], _ => exact ⟨y0, y1, y2, y3, y4, n, by simpa using hf 0 f0 rfl, by simpa using hf 1 f1 rfl, by simpa using hf 2 f2 rfl, by simpa using hf 3 f3 rfl, by simpa using hf 4 f4 rfl⟩
theorem open_ax {H : Type} {enc : TypeId × Value → H} {W : World} {base : Nat} {sp : Nat → Bool} {held : Bool} {cs : Array Value} (hn : cs.size = 5) {d : DataW H} {ps : List MemPlace} (hd : DataW.Trod enc Try.prog W base sp held 25 (.agg cs) d ps) :
    ∃ x : Ax, x.ok ∧ cs = x.cells := by
  obtain ⟨fuel, hf⟩ := hd
  have h2 : Try.prog.cellsOf 3 = 1 := by kernel_rfl
  have h3 : Try.prog.cellsOf 22 = 1 := by kernel_rfl
  have h4 : Try.prog.cellsOf 9 = 1 := by kernel_rfl
  have h5 : Try.prog.cellsOf 23 = 1 := by kernel_rfl
  obtain ⟨c0, c1, c2, c3, c4, rfl⟩ := array5 hn
  obtain ⟨y0, y1, y2, y3, y4, n, g0, g1, g2, g3, g4⟩ := trod_struct5 Try.underlying25 hf
  simp only [h2, h3, h4, h5, Value.cells, List.drop_zero, List.take_succ_cons, List.take_zero, List.drop_succ_cons] at g0 g1 g2 g3 g4
  obtain ⟨a, ha, _, hwa⟩ := DataW.trod_int Try.underlying3 g0
  obtain ⟨b, hb, _, hwb⟩ := DataW.trod_int Try.underlying22 g1
  obtain ⟨s, hs, _, hws⟩ := DataW.trod_string Try.underlying9 g2
  obtain ⟨r, hr, _, hwr⟩ := DataW.trod_string Try.underlying9 g3
  obtain ⟨c, hc, _, hwc⟩ := DataW.trod_int Try.underlying23 g4
  simp only [List.cons.injEq, and_true] at ha hb hc hs hr
  subst ha hb hc hs hr
  simp [Lit.wf, IntKind.min, IntKind.max, IntKind.signed, IntKind.bits] at hwa hwb hwc
  obtain ⟨b, rfl⟩ := Int.eq_ofNat_of_zero_le hwb.1
  obtain ⟨c, rfl⟩ := Int.eq_ofNat_of_zero_le hwc.1
  refine ⟨⟨a, b, s.data.toList, r.data.toList, c⟩, ⟨by show _ ≤ a; omega, by show a ≤ _; omega, by show b < _; omega, by show c < _; omega, ?_, ?_⟩, ?_⟩
  · rw [← str_list s, str_size] at hws; exact hws
  · rw [← str_list r, str_size] at hwr; exact hwr
  · simp only [Ax.cells, str_list]
end Go.Proofs.Ytlanplknendmaaa
