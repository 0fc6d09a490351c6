/-
  WHAT THE DOCUMENT'S OWN SameList AND SameSig RETURN OF LISTS OF THE SAME BYTES: true.
-/
import Derived.Test.YtngmcipmmeabmaaWireLaw
import Derived.Test.YtngmcipmmeabmaaWireRead6
import Derived.Test.YtngmcipmmeabmaaQuietTail
import Derived.Deep.MidRow
namespace Go.Proofs.Ytngmcipmmeabmaa
open Go.RowKit
set_option linter.unusedSimpArgs false
set_option linter.unusedVariables false

theorem wpQuiet_load_mid {P : Program} {ops : Array Oper} {C : World → Prop} {Q : Act → Prop} {a : Act} {o : Oper} {rest : List Oper} (hw : Region.wanted o (yielded ops a.tmps) = true) (ty : TypeId) (x : Operand) (ho : o.op = .load ty x)
    (b off : Nat) (hx : a.eval x = .pointer (some ⟨b, off, none⟩)) (cs : List Value) (d : TypeDesc) (hc : ∀ w, C w → w.rangeAt b off cs)
    (hu : P.underlying ty = some d) (hd : d.isRow = true) (hi : (P.info? ty).map (·.size) = some cs.length)
    (h : wpQuiet P ops C Q rest (a.put o.dst (.agg cs.toArray))) : wpQuiet P ops C Q (o :: rest) a := by
  show if _ then _ else _
  rw [if_pos hw]
  refine ⟨.agg cs.toArray, fun w hC => ?_, h⟩
  have hl := run_loadVar_mid w b off ty cs d (hc w hC) hu hd hi
  unfold Oper.quietAt execOp
  simp only [ho, hx, Instr.loadAt, Instr.sureAddr, Sem.run_bind, Sem.run_pure, Result.andThen_ok, hl]
  exact ⟨rfl, rfl⟩
/-- A digest of a list, as the cells of memory have it. -/
theorem digs_range {w : World} {b off n j : Nat} {l ch : List UInt8} (hby : Bytes w b off l) (hl : l.length = 32 * n) (hj : j < n) (hch : (l.drop (32 * j)).take 32 = ch) : w.rangeAt b (off + j * 32) (Lib.byteCells ch) := fun i v hv => by
  have hcl : ch.length = 32 := by rw [← hch, List.length_take, List.length_drop]; omega
  have hi : i < 32 := by
    have := (List.getElem?_eq_some_iff.1 hv).1
    rw [Lib.byteCells_length] at this; omega
  have h1 := hby (j * 32 + i) (by omega)
  rw [show off + j * 32 + i = off + (j * 32 + i) by omega, h1]
  have h2 := bc_at ch i (by omega)
  rw [bc, List.getElem?_toArray] at h2
  rw [h2] at hv
  rw [← Option.some.inj hv, ← hch]
  simp [List.getD_eq_getElem?_getD, List.getElem?_take, List.getElem?_drop, hi, Nat.mul_comm]
theorem digest_neq (d : List UInt8) (hd : d.length = 32) (w : World) : (binOp .neq 24 (.agg (bc d)) (.agg (bc d))).run Try.prog w = .ok (.bool false) w := by
  have h := digest_equal d hd w
  have h' : (Op.equalIn Op.maxDepth 24 (.agg (bc d)) (.agg (bc d))).run Try.prog w = .ok true w := h
  simp [binOp, Op.equal, h']
set_option maxHeartbeats 1000000 in
set_option maxRecDepth 100000 in
theorem sameList_calls (v1 v2 : Value) (l : List UInt8) (hl : l.length ≤ 137438953471) (w : World) (D1 : Digs w v1 l) (D2 : Digs w v2 l) :
    Calls Try.prog 40 #[v1, v2] w fun e w' => e = .returned (.bool true) ∧ Below w.heap.size w w' := by
  obtain ⟨p1, n, cap1, rfl, hn, hp1⟩ := D1
  obtain ⟨p2, n2, cap2, rfl, hn2, hp2⟩ := D2
  obtain rfl : n2 = n := by omega
  have Hp1 := hide hp1
  have Hp2 := hide hp2
  have Hn := hide hn
  have hnb : n2 < 4294967296 := by omega
  clear hp1 hp2 hn hn2
  go_enter Try.func40, Try.ntmps40
  go_wp2
  go_loopw [13] (fun i wr => ∃ j : Nat, j ≤ n2 ∧ i = .int .i64 (j : Int) ∧ Below w.heap.size w wr) (fun i _ => n2 - (intOf i).toNat)
  case atStart => exact ⟨0, by omega, rfl, Below.refl _ _⟩
  case round =>
    obtain ⟨j, hj, rfl, hb⟩ := hrel
    have hln := unhide Hn
    by_cases hlt : j < n2
    · have hd : decide (j < n2) = true := by simpa using hlt
      have bk : (j : Int) < (n2 : Int) := by omega
      obtain ⟨b1, off1, rfl, hz1, hby1⟩ := unhide Hp1 (by omega)
      obtain ⟨b2, off2, rfl, hz2, hby2⟩ := unhide Hp2 (by omega)
      obtain ⟨ch, hch, hcl⟩ : ∃ ch : List UInt8, Hid ((l.drop (32 * j)).take 32 = ch) ∧ ch.length = 32 := ⟨_, rfl, by rw [List.length_take, List.length_drop]; omega⟩
      have hC : ∀ w', (∃ p : Regrown, w' = Sort.grow (redrawn wr p.d) p.os) → Below w.heap.size w w' := fun w' ⟨p, hp⟩ => by
        rw [hp]; exact hb.trans ((below_regrown wr p.d p.os).mono hb.size)
      have r1 : Hid (∀ w', (∃ p : Regrown, w' = Sort.grow (redrawn wr p.d) p.os) → w'.rangeAt b1 (off1 + j * 32) (Lib.byteCells ch)) := fun w' hw' => digs_range (hby1.below (hC w' hw') hz1) hln hlt (unhide hch)
      have r2 : Hid (∀ w', (∃ p : Regrown, w' = Sort.grow (redrawn wr p.d) p.os) → w'.rangeAt b2 (off2 + j * 32) (Lib.byteCells ch)) := fun w' hw' => digs_range (hby2.below (hC w' hw') hz2) hln hlt (unhide hch)
      have hil : (Try.prog.info? 24).map (·.size) = some (Lib.byteCells ch).length := by rw [Lib.byteCells_length, hcl]; kernel_rfl
      have hne : ∀ w, (binOp .neq 24 (.agg (Lib.byteCells ch).toArray) (.agg (Lib.byteCells ch).toArray)).run Try.prog w = .ok (.bool false) w := digest_neq ch hcl
      clear hln hC hby1 hby2 hz1 hz2
      go_wp2_with fail
      refine wp_region_below mixed (by kernel_rfl) ?_
      quiet_step (fail)
      quiet_step (fail)
      quiet_step (fail)
      refine wpQuiet_load_mid rfl 24 (.tmp 18) rfl b1 (off1 + j * 32) rfl (Lib.byteCells ch) _ (unhide r1) Try.underlying24 rfl hil ?_
      quiet_step (fail)
      quiet_step (fail)
      quiet_step (fail)
      refine wpQuiet_load_mid rfl 24 (.tmp 22) rfl b2 (off2 + j * 32) rfl (Lib.byteCells ch) _ (unhide r2) Try.underlying24 rfl hil ?_
      quiet_step (fail)
      refine wpQuiet_nil ?_
      intro w3 hb3
      clear hne hil r1 r2
      go_wp2
      go_roundw
      case rel => exact ⟨j + 1, by omega, by go_num, hb.trans (hb3.mono hb.size)⟩
      case measure => simp [intOf]; omega
    · have hd : decide (j < n2) = false := by simpa using hlt
      clear hln
      go_wp2
      go_ret
      exact ⟨rfl, hb⟩
set_option maxHeartbeats 1000000 in
theorem sameSig_calls (i : Int) (p1 p2 p3 q1 q2 q3 : Option Addr) (n1 n2 n3 c1 c2 c3 m1 m2 m3 e1 e2 e3 : Nat) (l1 l2 l3 : List UInt8) (h1 : l1.length ≤ 137438953471) (h2 : l2.length ≤ 137438953471) (h3 : l3.length ≤ 137438953471) (w : World)
    (A1 : Digs w (.slice p1 n1 c1) l1) (A2 : Digs w (.slice p2 n2 c2) l2) (A3 : Digs w (.slice p3 n3 c3) l3) (B1 : Digs w (.slice q1 m1 e1) l1) (B2 : Digs w (.slice q2 m2 e2) l2) (B3 : Digs w (.slice q3 m3 e3) l3) :
    Calls Try.prog 25 #[.agg #[.int .i64 i, .slice p1 n1 c1, .slice p2 n2 c2, .slice p3 n3 c3], .agg #[.int .i64 i, .slice q1 m1 e1, .slice q2 m2 e2, .slice q3 m3 e3]] w fun e w' => e = .returned (.bool true) ∧ Below w.heap.size w w' := by
  have r0 := (al2 w (.cells #[.int .i64 i, .slice p1 n1 c1, .slice p2 n2 c2, .slice p3 n3 c3] 27) (.cells #[.int .i64 i, .slice q1 m1 e1, .slice q2 m2 e2, .slice q3 m3 e3] 27)).1
  have r1 := (al2 w (.cells #[.int .i64 i, .slice p1 n1 c1, .slice p2 n2 c2, .slice p3 n3 c3] 27) (.cells #[.int .i64 i, .slice q1 m1 e1, .slice q2 m2 e2, .slice q3 m3 e3] 27)).2
  have hb0 := bel2 w (.cells #[.int .i64 i, .slice p1 n1 c1, .slice p2 n2 c2, .slice p3 n3 c3] 27) (.cells #[.int .i64 i, .slice q1 m1 e1, .slice q2 m2 e2, .slice q3 m3 e3] 27)
  have z0 : ((w.alloc (.cells #[.int .i64 i, .slice p1 n1 c1, .slice p2 n2 c2, .slice p3 n3 c3] 27)).alloc (.cells #[.int .i64 i, .slice q1 m1 e1, .slice q2 m2 e2, .slice q3 m3 e3] 27)).heap.size = w.heap.size + 1 + 1 := by simp
  go_enter Try.func25, Try.ntmps25
  go_wp2_with fail
  refine (sameList_calls _ _ l1 h1 ((w.alloc (.cells #[.int .i64 i, .slice p1 n1 c1, .slice p2 n2 c2, .slice p3 n3 c3] 27)).alloc (.cells #[.int .i64 i, .slice q1 m1 e1, .slice q2 m2 e2, .slice q3 m3 e3] 27)) (A1.below hb0) (B1.below hb0)).mono ?_
  generalize (w.alloc (.cells #[.int .i64 i, .slice p1 n1 c1, .slice p2 n2 c2, .slice p3 n3 c3] 27)).alloc (.cells #[.int .i64 i, .slice q1 m1 e1, .slice q2 m2 e2, .slice q3 m3 e3] 27) = X at *
  rintro e w1 ⟨rfl, hb1⟩
  have s0 := Below.at hb1 (by omega) r0
  have s1 := Below.at hb1 (by omega) r1
  have b1 := hb0.trans (hb1.mono hb0.size)
  have z1 := hb1.size
  have k02 : w1.cell? ⟨w.heap.size, 2, none⟩ = some (.slice p2 n2 c2) := (sig_cell s0).1 2 _ rfl
  have k12 : w1.cell? ⟨w.heap.size + 1, 2, none⟩ = some (.slice q2 m2 e2) := (sig_cell s1).1 2 _ rfl
  clear r0 r1 hb0 hb1
  go_wp2_with fail
  refine (sameList_calls _ _ l2 h2 w1 (A2.below b1) (B2.below b1)).mono ?_
  rintro e w2 ⟨rfl, hb2⟩
  have t0 := Below.at hb2 (by omega) s0
  have t1 := Below.at hb2 (by omega) s1
  have b2 := b1.trans (hb2.mono b1.size)
  have k03 : w2.cell? ⟨w.heap.size, 3, none⟩ = some (.slice p3 n3 c3) := (sig_cell t0).1 3 _ rfl
  have k13 : w2.cell? ⟨w.heap.size + 1, 3, none⟩ = some (.slice q3 m3 e3) := (sig_cell t1).1 3 _ rfl
  clear s0 s1 hb2 k02 k12 t0 t1
  go_wp2_with fail
  refine (sameList_calls _ _ l3 h3 w2 (A3.below b2) (B3.below b2)).mono ?_
  rintro e w3 ⟨rfl, hb3⟩
  clear k03 k13
  go_wp2
  go_ret
  exact ⟨rfl, b2.trans (hb3.mono b2.size)⟩
end Go.Proofs.Ytngmcipmmeabmaa
