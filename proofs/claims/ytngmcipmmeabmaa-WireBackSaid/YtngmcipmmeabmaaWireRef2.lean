/-
  WHAT THE DOCUMENT'S OWN ANSWERS OF LAYER 3 RETURN: Digests, Sig.
-/
import Derived.Test.YtngmcipmmeabmaaWireRef
import Derived.Test.YtngmcipmmeabmaaWireSig
namespace Go.Proofs.Ytngmcipmmeabmaa
open Go.RowKit
set_option linter.unusedSimpArgs false
set_option linter.unusedVariables false

set_option maxHeartbeats 1000000 in
set_option maxRecDepth 100000 in
theorem rdigs_calls (v : Value) (l : List UInt8) (hl : l.length ≤ 137438953471) (w : World) (h : Digs w v l) :
    Calls Try.prog 18 #[v] w fun e w' => e = .returned (.string (str (pDigests l))) ∧ Below w.heap.size w w' := by
  obtain ⟨p, n, cap, rfl, hn, hp⟩ := h
  have hdiv : l.length / 32 = n := by omega
  have hn32 : n < 4294967296 := by omega
  unfold pDigests
  rw [hdiv]
  have hlen := pBig_length n 4
  have hww := fun w => rbig_calls n 4 (by omega) (by decide) (by decide) w
  generalize pBig n 4 = B at *
  have Hww := hide hww
  have Hp := hide hp
  have Hn := hide hn
  clear hww hp hn hdiv
  go_enter Try.func18, Try.ntmps18
  go_wp2_with fail
  refine (unhide Hww _).mono ?_
  rintro e w1 ⟨rfl, b1⟩
  go_wp2
  go_loopw [3, 12] (fun s i wr => ∃ j : Nat, j ≤ n ∧ s = .string (str (B ++ l.take (32 * j))) ∧ i = .int .i64 (j : Int) ∧ Below w.heap.size w wr) (fun _ i _ => n - (intOf i).toNat)
  case atStart => exact ⟨0, by omega, by simp, rfl, b1⟩
  case round =>
    clear b1
    obtain ⟨j, hj, rfl, rfl, hb⟩ := hrel
    have hln := unhide Hn
    have hzr := hb.size
    by_cases hlt : j < n
    · have hd : decide (j < n) = true := by simpa using hlt
      have bk : (j : Int) < (n : Int) := by omega
      obtain ⟨b, off, rfl, hbz, hby⟩ := unhide Hp (by omega)
      obtain ⟨ch, hch, hcl⟩ : ∃ ch : List UInt8, Hid ((l.drop (32 * j)).take 32 = ch) ∧ ch.length = 32 := ⟨_, rfl, by rw [List.length_take, List.length_drop]; omega⟩
      have hr : wr.rangeAt b (off + j * 32) (Lib.byteCells ch) := fun i v hv => by
        have hi : i < 32 := by
          have := (List.getElem?_eq_some_iff.1 hv).1
          rw [Lib.byteCells_length] at this; omega
        have h1 := (hby.below hb hbz) (j * 32 + i) (by omega)
        rw [show off + j * 32 + i = off + (j * 32 + i) by omega, h1]
        have h2 := bc_at ch i (by omega)
        rw [bc, List.getElem?_toArray] at h2
        rw [h2] at hv
        rw [← Option.some.inj hv, ← unhide hch]
        simp [List.getD_eq_getElem?_getD, List.getElem?_take, List.getElem?_drop, hi, Nat.mul_comm]
      have hil : (Try.prog.info? 24).map (·.size) = some (Lib.byteCells ch).length := by rw [Lib.byteCells_length, hcl]; kernel_rfl
      have hil2 : (Try.prog.info? 24).map (·.size) = some (bc ch).size := by rw [bc_size, hcl]; kernel_rfl
      have hsz2 : (bc (List.replicate 32 (0 : UInt8))).size = (bc ch).size := by rw [bc_size, bc_size, hcl]; rfl
      have ho1 := bc_oneCell ch
      have qn : (wr.alloc (.cells (bc (List.replicate 32 0)) 24)).heap[wr.heap.size]? = some (.cells (bc (List.replicate 32 0)) 24 (0, 0)) := al1 _ _
      have qs := setRow_heap _ _ _ (bc ch) _ _ qn
      obtain ⟨acc, hacc, haccl⟩ : ∃ acc : List UInt8, Hid (B ++ l.take (32 * j) = acc) ∧ acc.length ≤ 4 + 32 * n := ⟨_, rfl, by rw [List.length_append, List.length_take]; omega⟩
      rw [unhide hacc]
      have ea := append_str acc ch
      have n1 : ¬ 9223372036854775807 < acc.length + 32 := by omega
      have n1' : ¬ 9223372036854775807 < acc.length + ch.length := by omega
      clear hln hby hbz
      go_wp2_with (first
        | (refine wpList_load_mid rfl 24 (.tmp 14) rfl b (off + j * 32) rfl (Lib.byteCells ch) _ hr Try.underlying24 rfl hil ?_)
        | (refine wpList_store_row rfl 24 (.tmp 5) (.tmp 15) rfl wr.heap.size _ rfl rfl 24 _ qn hil2 hsz2 ho1 ?_)
        | (refine wpList_load_row rfl 24 (.tmp 5) rfl wr.heap.size rfl 24 _ (0, 0) _ qs Try.underlying24 rfl hil2 ?_))
      have hbA : Below wr.heap.size wr ((wr.alloc (.cells (bc (List.replicate 32 0)) 24)).setRow wr.heap.size (Lib.byteCells ch).toArray) := below_setRow ((Below.refl _ wr).alloc (Nat.le_refl _) _) (Nat.le_refl _) _
      refine (rbytes_calls ch hcl ((wr.alloc (.cells (bc (List.replicate 32 0)) 24)).setRow wr.heap.size (Lib.byteCells ch).toArray)).mono ?_
      generalize (wr.alloc (.cells (bc (List.replicate 32 0)) 24)).setRow wr.heap.size (Lib.byteCells ch).toArray = W at *
      rintro e w5 ⟨rfl, hb5⟩
      have hb6 : Below wr.heap.size wr w5 := hbA.trans (hb5.mono hbA.size)
      clear hbA hb5 hr hil hil2 hsz2 ho1 qn qs
      go_wp2
      go_roundw
      case rel =>
        refine ⟨j + 1, by omega, ?_, by go_num, hb.trans (hb6.mono (by omega))⟩
        rw [← unhide hacc, ← unhide hch, show 32 * (j + 1) = 32 * j + 32 by omega, List.take_add, List.append_assoc]
      case measure => simp [intOf]; omega
    · have hd : decide (j < n) = false := by simpa using hlt
      have ht : l.take (32 * j) = l := List.take_of_length_le (by omega)
      rw [ht]
      clear ht hln
      go_wp2
      go_ret
      exact ⟨rfl, hb⟩
set_option maxHeartbeats 2000000 in
set_option maxRecDepth 100000 in
theorem rsigr_calls (i : Int) (v1 v2 v3 : Value) (l1 l2 l3 : List UInt8) (h1 : l1.length ≤ 137438953471) (h2 : l2.length ≤ 137438953471) (h3 : l3.length ≤ 137438953471) (w : World) (d1 : Digs w v1 l1) (d2 : Digs w v2 l2) (d3 : Digs w v3 l3) :
    Calls Try.prog 20 #[.agg #[.int .i64 i, v1, v2, v3]] w fun e w' => e = .returned (.string (str (pSig i l1 l2 l3))) ∧ Below w.heap.size w w' := by
  unfold pSig
  have hb0 := (Below.refl w.heap.size w).alloc (Nat.le_refl _) (.cells #[.int .i64 i, v1, v2, v3] 27)
  have q0 := al1 w (.cells #[.int .i64 i, v1, v2, v3] 27)
  have e1 := d1.below hb0
  have e2 := d2.below hb0
  have e3 := d3.below hb0
  have L1 := pDigests_length l1
  have L2 := pDigests_length l2
  have L3 := pDigests_length l3
  have hmod : (i % 4294967296).toNat < 4294967296 := by omega
  have hmi : ((i % 4294967296).toNat : Int) = i % 4294967296 := by omega
  have wwc := fun w => rbig_calls (i % 4294967296).toNat 4 (by omega) (by decide) (by decide) w
  rw [hmi] at wwc
  have L0 := pBig_length (i % 4294967296).toNat 4
  generalize hP0 : pBig (i % 4294967296).toNat 4 = P0 at *
  have h1c : ∀ w', Below w.heap.size w w' → Calls Try.prog 18 #[v1] w' fun e w'' => e = .returned (.string (str (pDigests l1))) ∧ Below w'.heap.size w' w'' := fun w' hb => rdigs_calls v1 l1 h1 w' (d1.below hb)
  have h2c : ∀ w', Below w.heap.size w w' → Calls Try.prog 18 #[v2] w' fun e w'' => e = .returned (.string (str (pDigests l2))) ∧ Below w'.heap.size w' w'' := fun w' hb => rdigs_calls v2 l2 h2 w' (d2.below hb)
  have h3c : ∀ w', Below w.heap.size w w' → Calls Try.prog 18 #[v3] w' fun e w'' => e = .returned (.string (str (pDigests l3))) ∧ Below w'.heap.size w' w'' := fun w' hb => rdigs_calls v3 l3 h3 w' (d3.below hb)
  generalize pDigests l1 = P1 at *
  generalize pDigests l2 = P2 at *
  generalize pDigests l3 = P3 at *
  have a1 := append_str P0 P1
  have a2 : str (P0 ++ P1) ++ str P2 = str (P0 ++ (P1 ++ P2)) := by rw [append_str, List.append_assoc]
  have a3 : str (P0 ++ (P1 ++ P2)) ++ str P3 = str (P0 ++ (P1 ++ (P2 ++ P3))) := by rw [append_str]; simp
  have n1 : ¬ 9223372036854775807 < P0.length + P1.length := by omega
  have n2 : ¬ 9223372036854775807 < P0.length + P1.length + P2.length := by omega
  have n3 : ¬ 9223372036854775807 < P0.length + P1.length + P2.length + P3.length := by omega
  have n3' : ¬ 9223372036854775807 < P0.length + (P1.length + P2.length) + P3.length := by omega
  generalize hX : w.alloc (.cells #[.int .i64 i, v1, v2, v3] 27) = X at *
  have hrg : ∀ d os, Below w.heap.size w (Sort.grow (redrawn X d) os) := fun d os => hb0.trans ((below_regrown X d os).mono hb0.size)
  have hzX : w.heap.size < X.heap.size := (Array.getElem?_eq_some_iff.1 q0).1
  have cg : ∀ j v, (#[Value.int .i64 i, v1, v2, v3] : Array Value)[j]? = some v → ∀ d os, (Sort.grow (redrawn X d) os).cell? ⟨w.heap.size, j, none⟩ = some v := fun j v hv d os => by
    rw [(below_regrown X d os).cell (p := ⟨w.heap.size, j, none⟩) hzX]; exact (sig_cell q0).1 j v hv
  have c0 : ∀ d os, (Sort.grow (redrawn X d) os).cell? ⟨w.heap.size, 0, none⟩ = some (.int .i64 i) := cg 0 _ rfl
  have c1 : ∀ d os, (Sort.grow (redrawn X d) os).cell? ⟨w.heap.size, 1, none⟩ = some v1 := cg 1 _ rfl
  have c2 : ∀ d os, (Sort.grow (redrawn X d) os).cell? ⟨w.heap.size, 2, none⟩ = some v2 := cg 2 _ rfl
  have c3 : ∀ d os, (Sort.grow (redrawn X d) os).cell? ⟨w.heap.size, 3, none⟩ = some v3 := cg 3 _ rfl
  have k0 : Hid (∀ d os, Calls Try.prog 10 #[.int .u64 ((IntKind.u64.wrap i).tmod 4294967296), .int .i64 4] (Sort.grow (redrawn X d) os) fun e w'' => e = .returned (.string (str P0)) ∧ ∃ p : Regrown, w'' = Sort.grow (redrawn X p.d) p.os) := fun d os => by
    have hraw : (IntKind.u64.wrap i).tmod 4294967296 = i % 4294967296 := by
      rw [IntKind.wrap_u64, Int.tmod_eq_emod_of_nonneg (by omega)]; omega
    rw [hraw]; exact Calls.regrown_of (wwc _)
  have k1 : Hid (∀ d os, Calls Try.prog 18 #[v1] (Sort.grow (redrawn X d) os) fun e w'' => e = .returned (.string (str P1)) ∧ ∃ p : Regrown, w'' = Sort.grow (redrawn X p.d) p.os) := fun d os => Calls.regrown_of (h1c _ (hrg d os))
  have k2 : Hid (∀ d os, Calls Try.prog 18 #[v2] (Sort.grow (redrawn X d) os) fun e w'' => e = .returned (.string (str P2)) ∧ ∃ p : Regrown, w'' = Sort.grow (redrawn X p.d) p.os) := fun d os => Calls.regrown_of (h2c _ (hrg d os))
  have k3 : Hid (∀ d os, Calls Try.prog 18 #[v3] (Sort.grow (redrawn X d) os) fun e w'' => e = .returned (.string (str P3)) ∧ ∃ p : Regrown, w'' = Sort.grow (redrawn X p.d) p.os) := fun d os => Calls.regrown_of (h3c _ (hrg d os))
  have HX := hide hX
  clear cg hX wwc h1c h2c h3c hrg e1 e2 e3 d1 d2 d3 L0 L1 L2 L3 hmi hmod hP0 h1 h2 h3 q0
  go_enter Try.func20, Try.ntmps20
  go_wp2_with fail
  rw [unhide HX]
  refine wp_region_below mixed (by kernel_rfl) ?_
  quiet_step (fail)
  quiet_step (fail)
  quiet_step (fail)
  quiet_step (fail)
  quiet_step (exact unhide k0 _ _)
  quiet_step (fail)
  quiet_step (fail)
  quiet_step (exact unhide k1 _ _)
  quiet_step (fail)
  quiet_step (fail)
  quiet_step (fail)
  quiet_step (exact unhide k2 _ _)
  quiet_step (fail)
  quiet_step (fail)
  quiet_step (fail)
  quiet_step (exact unhide k3 _ _)
  repeat (quiet_step (fail))
  refine wpQuiet_nil ?_
  intro w3 hb3
  go_wp2
  go_ret
  exact ⟨by simp only [List.append_assoc]; rfl, hb0.trans (hb3.mono hb0.size)⟩
end Go.Proofs.Ytngmcipmmeabmaa
