/-
  WHAT THE DOCUMENT'S OWN ANSWERS OF LAYER 3 RETURN: Big, Text, Bytes.
-/
/-
  WHAT THE DOCUMENT'S OWN ANSWERS OF LAYER 3 RETURN: Digests, Sig.
-/
/-
  WHAT THE DOCUMENT's OWN Bytes AND StopBytes (layer 10) RETURN.
-/
/-
  EQUALITY OF ARRAYS AND STRUCTS BY VALUE, OF A VALUE WITH ITSELF. Over whatever program.
-/
/-
  WHAT THE DOCUMENT'S OWN SameList AND SameSig RETURN OF LISTS OF THE SAME BYTES: true.
-/
/-
  WHAT IS WRITTEN IS READ AS IT WAS: the lists alone.
-/
/-
  A WHOLE ROW LOADED WHERE A GUARD LETS IT. Over whatever program.
-/
/-
  UPDATES AND STOPS THERE AND BACK, PLAIN; WHAT THE DOCUMENT's OWN Same AND SameStop RETURN OF THOSE THAT ARE ALIKE: true.
-/
/-
  WHAT IS READ AS AN UPDATE, AS A STOP, IS WRITTEN SO.
-/
/-
  WHAT THE PROGRAM AND THE DOCUMENT READ AS UPDATES AND STOPS IS THE SAME; WHETHER A SIGNATURE IS SHORT.
-/
/-
  WHAT THE SMALL FUNCTIONS OF sha AND OF ITS REFERENCE RETURN: one contract each.
-/
/-
  THE WORDS THAT A BLOCK IS DRAWN OUT TO, AS LISTS. Plain definitions and lemmas. No program is named here.
-/
import Derived.Test.YtocibklkpnblgaaGreatDoorJ0
import Derived.Laws.IdiomStrings
import Derived.Test.YtocibklkpnblgaaGreatDoorJ1
import Derived.DeepKeys
import Derived.Laws.StructEq
import Derived.WalkKit
import Derived.Deep.MidRow
import Derived.Test.YtocibklkpnblgaaGreatDoorJ2
import Derived.Test.YtocibklkpnblgaaGreatDoorProg
import Derived.WalkSpells
import Derived.WalkLawsBesides
import Derived.BigQuiet
import Derived.Deep.QuietTactic
import Derived.Laws.Rows
namespace Go.Proofs.YtocibklkpnblgaaGreatDoor
open Go.RowKit
set_option linter.unusedSimpArgs false
set_option linter.unusedVariables false

theorem byte256 (q : Nat) : (q : Int) % 256 = ((UInt8.ofNat q).toNat : Int) := by
  rw [UInt8.toNat_ofNat']
  show (q : Int) % 256 = ((q % 256 : Nat) : Int)
  omega
set_option maxHeartbeats 400000 in
set_option maxRecDepth 100000 in
theorem rbig_calls (n k : Nat) (hn : n < 18446744073709551616) (hk : k ≤ 8) (hk1 : 1 ≤ k) (w : World) :
    Calls Tryz.prog 32 #[.int .u64 (n : Int), .int .i64 (k : Int)] w fun e w' => e = .returned (.string (str (pBig n k))) ∧ Below w.heap.size w w' := by
  have hlen := pBig_length n k
  have hat := pBig_at n k
  generalize hP : pBig n k = P at *
  have HP := hide hP
  have Hlen := hide hlen
  have Hat := hide hat
  clear hP hlen hat
  go_enter Tryz.func32, Tryz.ntmps32
  go_wp2
  go_loopw [0, 6] (fun a i wr => ∃ j m : Nat, j ≤ k ∧ Hid (m = n / 2 ^ (8 * (k - j))) ∧ a = .int .u64 (m : Int) ∧ i = .int .i64 ((j : Int) - 1) ∧ Below w.heap.size w wr ∧ wr.heap[w.heap.size]? = some (.cells (bc (List.replicate j 0 ++ P.drop j ++ List.replicate (8 - k) 0)) 89 (0, 0))) (fun _ i _ => (intOf i + 1).toNat)
  case atStart =>
    refine ⟨k, n, Nat.le_refl _, ?_, rfl, rfl, (Below.refl _ _).alloc (Nat.le_refl _) _, ?_⟩
    · show n = _; simp
    · rw [al1, List.drop_of_length_le (by rw [unhide Hlen]; omega), List.append_nil, List.replicate_append_replicate, show k + (8 - k) = 8 by omega]; rfl
  case round =>
    obtain ⟨j, m, hj, hm, rfl, rfl, hb, q⟩ := hrel
    cases j with
    | succ j =>
      rw [show ((j + 1 : Nat) : Int) - 1 = (j : Int) by omega]
      have hd : decide ((0 : Int) ≤ (j : Int)) = true := by simp
      have hsp : List.replicate (j + 1) (0 : UInt8) ++ P.drop (j + 1) ++ List.replicate (8 - k) 0 = List.replicate j 0 ++ 0 :: (P.drop (j + 1) ++ List.replicate (8 - k) 0) := by
        rw [List.replicate_succ']; simp
      rw [hsp] at q
      have hl : (List.replicate j 0 ++ 0 :: (P.drop (j + 1) ++ List.replicate (8 - k) 0) : List UInt8).length = 8 := by simp [unhide Hlen]; omega
      have c : wr.cell? ⟨w.heap.size, j, none⟩ = some (.int .u8 (((List.replicate j 0 ++ 0 :: (P.drop (j + 1) ++ List.replicate (8 - k) 0) : List UInt8).getD j 0).toNat : Int)) := by
        rw [cell_of_row _ _ _ _ _ _ q]; exact bc_at _ _ (by omega)
      have f : wr.frozen? ⟨w.heap.size, j, none⟩ = false := frozen_of_row _ _ _ _ _ q
      have b1 : (j : Int) < 8 := by omega
      generalize hv : (List.replicate j 0 ++ 0 :: (P.drop (j + 1) ++ List.replicate (8 - k) 0) : List UInt8).getD j 0 = v at c
      obtain ⟨m2, hm2, em2⟩ : ∃ m2 : Nat, Hid (m / 256 = m2) ∧ (m : Int) / 256 = (m2 : Int) := ⟨_, rfl, by omega⟩
      have hmn : m ≤ n := by rw [unhide hm]; exact Nat.div_le_self _ _
      have wu := wu64 (m2 : Int) (by omega) (by have := unhide hm2; omega)
      have Q := hide q
      clear hl hv q hsp hmn
      go_wp2
      go_roundw
      case rel =>
        refine ⟨j, m2, by omega, ?_, rfl, by go_num, hb.setCell (by simp) _, ?_⟩
        · show m2 = _
          rw [← unhide hm2, unhide hm, Nat.div_div_eq_div_mul, show (256 : Nat) = 2 ^ 8 from rfl, ← Nat.pow_add, show 8 * (k - (j + 1)) + 8 = 8 * (k - j) by omega]
        · rw [byte256, heap_setCell_same _ _ _ _ _ _ (unhide Q), bc_set _ _ _ _ _ (by simp)]
          have e2 := unhide Hat j (by omega)
          rw [show k - 1 - j = k - (j + 1) by omega, ← unhide hm] at e2
          rw [drop_cons' P j 0 (by rw [unhide Hlen]; omega), e2]; simp
      case measure => simp [intOf]
    | zero =>
      have hd : decide ((0 : Int) ≤ (((0 : Nat) : Int) - 1)) = false := by decide
      have q' : wr.heap[w.heap.size]? = some (.cells (bc (P ++ List.replicate (8 - k) 0)) 89 (0, 0)) := by
        rw [q]; simp
      have hcv := run_convert_bytes_back (P := Tryz.prog) wr 82 9 5 ⟨w.heap.size, 0, none⟩ 8 P Tryz.underlying82 Tryz.underlying5 Tryz.underlying9 (fun j hj => by
        have hadd : (⟨w.heap.size, 0, none⟩ : Addr).add j = ⟨w.heap.size, j, none⟩ := by unfold Addr.add; split <;> simp_all
        rw [hadd, cell_of_row _ _ _ _ _ _ q', bc_at _ _ (by simp; omega)]; simp [hj, List.getElem?_append_left])
      rw [unhide Hlen] at hcv
      have b1 : (k : Int) ≤ 8 := by omega
      clear q q'
      go_wp2
      go_ret
      exact ⟨by rfl, hb⟩
set_option maxRecDepth 100000 in
theorem rbytes_calls (d : List UInt8) (hd : d.length = 32) (w : World) :
    Calls Tryz.prog 33 #[.agg (bc d)] w fun e w' => e = .returned (.string (str d)) ∧ Below w.heap.size w w' := by
  have q := al1 w (.cells (bc d) 24)
  have hcv := run_convert_bytes_back (P := Tryz.prog) (w.alloc (.cells (bc d) 24)) 82 9 5 ⟨w.heap.size, 0, none⟩ 32 d Tryz.underlying82 Tryz.underlying5 Tryz.underlying9 (fun j hj => by
    have hadd : (⟨w.heap.size, 0, none⟩ : Addr).add j = ⟨w.heap.size, j, none⟩ := by unfold Addr.add; split <;> simp_all
    rw [hadd, cell_of_row _ _ _ _ _ _ q, bc_at _ _ hj]; simp [hj])
  rw [hd] at hcv
  clear q
  go_enter Tryz.func33, Tryz.ntmps33
  go_wp2
  go_ret
  exact ⟨rfl, (Below.refl _ _).alloc (Nat.le_refl _) _⟩
end Go.Proofs.YtocibklkpnblgaaGreatDoor

namespace Go.Proofs.YtocibklkpnblgaaGreatDoor
open Go.RowKit
set_option linter.unusedSimpArgs false
set_option linter.unusedVariables false

set_option maxHeartbeats 1000000 in
set_option maxRecDepth 100000 in
theorem rdigs_calls (v : Value) (l : List UInt8) (hl : l.length ≤ 137438953471) (w : World) (h : Digs w v l) :
    Calls Tryz.prog 52 #[v] w fun e w' => e = .returned (.string (str (pDigests l))) ∧ Below w.heap.size w w' := by
  obtain ⟨p, n, cap, rfl, hn, hp⟩ := h
  have hdiv : l.length / 32 = n := by omega
  have hn32 : n < 4294967296 := by omega
  unfold pDigests
  rw [hdiv]
  have hlen := pBig_length n 4
  have hww := fun w => rbig_calls n 4 (by omega) (by decide) (by decide) w
  generalize pBig n 4 = B at *
  have Hww := hide hww
  have Hp := hide hp
  have Hn := hide hn
  clear hww hp hn hdiv
  go_enter Tryz.func52, Tryz.ntmps52
  go_wp2_with fail
  refine (unhide Hww _).mono ?_
  rintro e w1 ⟨rfl, b1⟩
  go_wp2
  go_loopw [3, 12] (fun s i wr => ∃ j : Nat, j ≤ n ∧ s = .string (str (B ++ l.take (32 * j))) ∧ i = .int .i64 (j : Int) ∧ Below w.heap.size w wr) (fun _ i _ => n - (intOf i).toNat)
  case atStart => exact ⟨0, by omega, by simp, rfl, b1⟩
  case round =>
    clear b1
    obtain ⟨j, hj, rfl, rfl, hb⟩ := hrel
    have hln := unhide Hn
    have hzr := hb.size
    by_cases hlt : j < n
    · have hd : decide (j < n) = true := by simpa using hlt
      have bk : (j : Int) < (n : Int) := by omega
      obtain ⟨b, off, rfl, hbz, hby⟩ := unhide Hp (by omega)
      obtain ⟨ch, hch, hcl⟩ : ∃ ch : List UInt8, Hid ((l.drop (32 * j)).take 32 = ch) ∧ ch.length = 32 := ⟨_, rfl, by rw [List.length_take, List.length_drop]; omega⟩
      have hr : wr.rangeAt b (off + j * 32) (Lib.byteCells ch) := fun i v hv => by
        have hi : i < 32 := by
          have := (List.getElem?_eq_some_iff.1 hv).1
          rw [Lib.byteCells_length] at this; omega
        have h1 := (hby.below hb hbz) (j * 32 + i) (by omega)
        rw [show off + j * 32 + i = off + (j * 32 + i) by omega, h1]
        have h2 := bc_at ch i (by omega)
        rw [bc, List.getElem?_toArray] at h2
        rw [h2] at hv
        rw [← Option.some.inj hv, ← unhide hch]
        simp [List.getD_eq_getElem?_getD, List.getElem?_take, List.getElem?_drop, hi, Nat.mul_comm]
      have hil : (Tryz.prog.info? 24).map (·.size) = some (Lib.byteCells ch).length := by rw [Lib.byteCells_length, hcl]; kernel_rfl
      have hil2 : (Tryz.prog.info? 24).map (·.size) = some (bc ch).size := by rw [bc_size, hcl]; kernel_rfl
      have hsz2 : (bc (List.replicate 32 (0 : UInt8))).size = (bc ch).size := by rw [bc_size, bc_size, hcl]; rfl
      have ho1 := bc_oneCell ch
      have qn : (wr.alloc (.cells (bc (List.replicate 32 0)) 24)).heap[wr.heap.size]? = some (.cells (bc (List.replicate 32 0)) 24 (0, 0)) := al1 _ _
      have qs := setRow_heap _ _ _ (bc ch) _ _ qn
      obtain ⟨acc, hacc, haccl⟩ : ∃ acc : List UInt8, Hid (B ++ l.take (32 * j) = acc) ∧ acc.length ≤ 4 + 32 * n := ⟨_, rfl, by rw [List.length_append, List.length_take]; omega⟩
      rw [unhide hacc]
      have ea := append_str acc ch
      have n1 : ¬ 9223372036854775807 < acc.length + 32 := by omega
      have n1' : ¬ 9223372036854775807 < acc.length + ch.length := by omega
      clear hln hby hbz
      go_wp2_with (first
        | (refine wpList_load_mid rfl 24 (.tmp 14) rfl b (off + j * 32) rfl (Lib.byteCells ch) _ hr Tryz.underlying24 rfl hil ?_)
        | (refine wpList_store_row rfl 24 (.tmp 5) (.tmp 15) rfl wr.heap.size _ rfl rfl 24 _ qn hil2 hsz2 ho1 ?_)
        | (refine wpList_load_row rfl 24 (.tmp 5) rfl wr.heap.size rfl 24 _ (0, 0) _ qs Tryz.underlying24 rfl hil2 ?_))
      have hbA : Below wr.heap.size wr ((wr.alloc (.cells (bc (List.replicate 32 0)) 24)).setRow wr.heap.size (Lib.byteCells ch).toArray) := below_setRow ((Below.refl _ wr).alloc (Nat.le_refl _) _) (Nat.le_refl _) _
      refine (rbytes_calls ch hcl ((wr.alloc (.cells (bc (List.replicate 32 0)) 24)).setRow wr.heap.size (Lib.byteCells ch).toArray)).mono ?_
      generalize (wr.alloc (.cells (bc (List.replicate 32 0)) 24)).setRow wr.heap.size (Lib.byteCells ch).toArray = W at *
      rintro e w5 ⟨rfl, hb5⟩
      have hb6 : Below wr.heap.size wr w5 := hbA.trans (hb5.mono hbA.size)
      clear hbA hb5 hr hil hil2 hsz2 ho1 qn qs
      go_wp2
      go_roundw
      case rel =>
        refine ⟨j + 1, by omega, ?_, by go_num, hb.trans (hb6.mono (by omega))⟩
        rw [← unhide hacc, ← unhide hch, show 32 * (j + 1) = 32 * j + 32 by omega, List.take_add, List.append_assoc]
      case measure => simp [intOf]; omega
    · have hd : decide (j < n) = false := by simpa using hlt
      have ht : l.take (32 * j) = l := List.take_of_length_le (by omega)
      rw [ht]
      clear ht hln
      go_wp2
      go_ret
      exact ⟨rfl, hb⟩
set_option maxHeartbeats 2000000 in
set_option maxRecDepth 100000 in
theorem rsigr_calls (i : Int) (v1 v2 v3 : Value) (l1 l2 l3 : List UInt8) (h1 : l1.length ≤ 137438953471) (h2 : l2.length ≤ 137438953471) (h3 : l3.length ≤ 137438953471) (w : World) (d1 : Digs w v1 l1) (d2 : Digs w v2 l2) (d3 : Digs w v3 l3) :
    Calls Tryz.prog 34 #[.agg #[.int .i64 i, v1, v2, v3]] w fun e w' => e = .returned (.string (str (pSig i l1 l2 l3))) ∧ Below w.heap.size w w' := by
  unfold pSig
  have hb0 := (Below.refl w.heap.size w).alloc (Nat.le_refl _) (.cells #[.int .i64 i, v1, v2, v3] 27)
  have q0 := al1 w (.cells #[.int .i64 i, v1, v2, v3] 27)
  have e1 := d1.below hb0
  have e2 := d2.below hb0
  have e3 := d3.below hb0
  have L1 := pDigests_length l1
  have L2 := pDigests_length l2
  have L3 := pDigests_length l3
  have hmod : (i % 4294967296).toNat < 4294967296 := by omega
  have hmi : ((i % 4294967296).toNat : Int) = i % 4294967296 := by omega
  have wwc := fun w => rbig_calls (i % 4294967296).toNat 4 (by omega) (by decide) (by decide) w
  rw [hmi] at wwc
  have L0 := pBig_length (i % 4294967296).toNat 4
  generalize hP0 : pBig (i % 4294967296).toNat 4 = P0 at *
  have h1c : ∀ w', Below w.heap.size w w' → Calls Tryz.prog 52 #[v1] w' fun e w'' => e = .returned (.string (str (pDigests l1))) ∧ Below w'.heap.size w' w'' := fun w' hb => rdigs_calls v1 l1 h1 w' (d1.below hb)
  have h2c : ∀ w', Below w.heap.size w w' → Calls Tryz.prog 52 #[v2] w' fun e w'' => e = .returned (.string (str (pDigests l2))) ∧ Below w'.heap.size w' w'' := fun w' hb => rdigs_calls v2 l2 h2 w' (d2.below hb)
  have h3c : ∀ w', Below w.heap.size w w' → Calls Tryz.prog 52 #[v3] w' fun e w'' => e = .returned (.string (str (pDigests l3))) ∧ Below w'.heap.size w' w'' := fun w' hb => rdigs_calls v3 l3 h3 w' (d3.below hb)
  generalize pDigests l1 = P1 at *
  generalize pDigests l2 = P2 at *
  generalize pDigests l3 = P3 at *
  have a1 := append_str P0 P1
  have a2 : str (P0 ++ P1) ++ str P2 = str (P0 ++ (P1 ++ P2)) := by rw [append_str, List.append_assoc]
  have a3 : str (P0 ++ (P1 ++ P2)) ++ str P3 = str (P0 ++ (P1 ++ (P2 ++ P3))) := by rw [append_str]; simp
  have n1 : ¬ 9223372036854775807 < P0.length + P1.length := by omega
  have n2 : ¬ 9223372036854775807 < P0.length + P1.length + P2.length := by omega
  have n3 : ¬ 9223372036854775807 < P0.length + P1.length + P2.length + P3.length := by omega
  have n3' : ¬ 9223372036854775807 < P0.length + (P1.length + P2.length) + P3.length := by omega
  generalize hX : w.alloc (.cells #[.int .i64 i, v1, v2, v3] 27) = X at *
  have hrg : ∀ d os, Below w.heap.size w (Sort.grow (redrawn X d) os) := fun d os => hb0.trans ((below_regrown X d os).mono hb0.size)
  have hzX : w.heap.size < X.heap.size := (Array.getElem?_eq_some_iff.1 q0).1
  have cg : ∀ j v, (#[Value.int .i64 i, v1, v2, v3] : Array Value)[j]? = some v → ∀ d os, (Sort.grow (redrawn X d) os).cell? ⟨w.heap.size, j, none⟩ = some v := fun j v hv d os => by
    rw [(below_regrown X d os).cell (p := ⟨w.heap.size, j, none⟩) hzX]; exact (sig_cell q0).1 j v hv
  have c0 : ∀ d os, (Sort.grow (redrawn X d) os).cell? ⟨w.heap.size, 0, none⟩ = some (.int .i64 i) := cg 0 _ rfl
  have c1 : ∀ d os, (Sort.grow (redrawn X d) os).cell? ⟨w.heap.size, 1, none⟩ = some v1 := cg 1 _ rfl
  have c2 : ∀ d os, (Sort.grow (redrawn X d) os).cell? ⟨w.heap.size, 2, none⟩ = some v2 := cg 2 _ rfl
  have c3 : ∀ d os, (Sort.grow (redrawn X d) os).cell? ⟨w.heap.size, 3, none⟩ = some v3 := cg 3 _ rfl
  have k0 : Hid (∀ d os, Calls Tryz.prog 32 #[.int .u64 ((IntKind.u64.wrap i).tmod 4294967296), .int .i64 4] (Sort.grow (redrawn X d) os) fun e w'' => e = .returned (.string (str P0)) ∧ ∃ p : Regrown, w'' = Sort.grow (redrawn X p.d) p.os) := fun d os => by
    have hraw : (IntKind.u64.wrap i).tmod 4294967296 = i % 4294967296 := by
      rw [IntKind.wrap_u64, Int.tmod_eq_emod_of_nonneg (by omega)]; omega
    rw [hraw]; exact Calls.regrown_of (wwc _)
  have k1 : Hid (∀ d os, Calls Tryz.prog 52 #[v1] (Sort.grow (redrawn X d) os) fun e w'' => e = .returned (.string (str P1)) ∧ ∃ p : Regrown, w'' = Sort.grow (redrawn X p.d) p.os) := fun d os => Calls.regrown_of (h1c _ (hrg d os))
  have k2 : Hid (∀ d os, Calls Tryz.prog 52 #[v2] (Sort.grow (redrawn X d) os) fun e w'' => e = .returned (.string (str P2)) ∧ ∃ p : Regrown, w'' = Sort.grow (redrawn X p.d) p.os) := fun d os => Calls.regrown_of (h2c _ (hrg d os))
  have k3 : Hid (∀ d os, Calls Tryz.prog 52 #[v3] (Sort.grow (redrawn X d) os) fun e w'' => e = .returned (.string (str P3)) ∧ ∃ p : Regrown, w'' = Sort.grow (redrawn X p.d) p.os) := fun d os => Calls.regrown_of (h3c _ (hrg d os))
  have HX := hide hX
  clear cg hX wwc h1c h2c h3c hrg e1 e2 e3 d1 d2 d3 L0 L1 L2 L3 hmi hmod hP0 h1 h2 h3 q0
  go_enter Tryz.func34, Tryz.ntmps34
  go_wp2_with fail
  rw [unhide HX]
  refine wp_region_below mixed (by kernel_rfl) ?_
  quiet_step (fail)
  quiet_step (fail)
  quiet_step (fail)
  quiet_step (fail)
  quiet_step (exact unhide k0 _ _)
  quiet_step (fail)
  quiet_step (fail)
  quiet_step (exact unhide k1 _ _)
  quiet_step (fail)
  quiet_step (fail)
  quiet_step (fail)
  quiet_step (exact unhide k2 _ _)
  quiet_step (fail)
  quiet_step (fail)
  quiet_step (fail)
  quiet_step (exact unhide k3 _ _)
  repeat (quiet_step (fail))
  refine wpQuiet_nil ?_
  intro w3 hb3
  go_wp2
  go_ret
  exact ⟨by simp only [List.append_assoc]; rfl, hb0.trans (hb3.mono hb0.size)⟩
end Go.Proofs.YtocibklkpnblgaaGreatDoor

namespace Go.Proofs.YtocibklkpnblgaaGreatDoor
open Go Go.RowKit
set_option linter.unusedSimpArgs false
set_option linter.unusedVariables false

theorem pBig_low (m k : Nat) (h : m % 4294967296 = k % 4294967296) : pBig m 4 = pBig k 4 := by
  unfold pBig
  apply List.map_congr_left
  intro i hi
  have hi' := List.mem_range.1 hi
  have key : ∀ n : Nat, UInt8.ofNat (n / 2 ^ (8 * (4 - 1 - i))) = UInt8.ofNat (n % 4294967296 / 2 ^ (8 * (4 - 1 - i))) := fun n => by
    have e : n / 2 ^ (8 * (4 - 1 - i)) % 256 = n % 4294967296 / 2 ^ (8 * (4 - 1 - i)) % 256 := by
      match i, hi' with
      | 0, _ => show n / 16777216 % 256 = n % 4294967296 / 16777216 % 256; omega
      | 1, _ => show n / 65536 % 256 = n % 4294967296 / 65536 % 256; omega
      | 2, _ => show n / 256 % 256 = n % 4294967296 / 256 % 256; omega
      | 3, _ => show n / 1 % 256 = n % 4294967296 / 1 % 256; omega
    apply UInt8.toNat_inj.1
    rw [UInt8.toNat_ofNat', UInt8.toNat_ofNat']
    exact e
  rw [key m, key k, h]
theorem wrap_low (x : Int) : ∃ m : Nat, IntKind.u64.wrap x = (m : Int) ∧ m < 18446744073709551616 ∧ pBig m 4 = pBig (x % 4294967296).toNat 4 := by
  refine ⟨(IntKind.u64.wrap x).toNat, ?_, ?_, pBig_low _ _ ?_⟩ <;> rw [IntKind.wrap_u64] <;> omega
set_option maxHeartbeats 4000000 in
set_option maxRecDepth 100000 in
theorem dubytes_calls (home : Nat) (hh : home < 4294967296) (a b : List UInt8) (ha : a.length = 32) (hb : b.length = 32) (i : Int) (v1 v2 v3 : Value) (l1 l2 l3 : List UInt8) (h1 : l1.length ≤ 137438953471) (h2 : l2.length ≤ 137438953471) (h3 : l3.length ≤ 137438953471) (w : World) (d1 : Digs w v1 l1) (d2 : Digs w v2 l2) (d3 : Digs w v3 l3) :
    Calls Tryz.prog 11 #[.agg (updc home a b #[.int .i64 i, v1, v2, v3])] w fun e w' => e = .returned (.string (str (pUpd home a b i l1 l2 l3))) ∧ Below w.heap.size w w' := by
  unfold pUpd
  have hb0 := (Below.refl w.heap.size w).alloc (Nat.le_refl _) (.cells (updc home a b #[.int .i64 i, v1, v2, v3]) 29)
  have q0 := al1 w (.cells (updc home a b #[.int .i64 i, v1, v2, v3]) 29)
  obtain ⟨X, hX⟩ : ∃ X, w.alloc (.cells (updc home a b #[.int .i64 i, v1, v2, v3]) 29) = X := ⟨_, rfl⟩
  rw [hX] at hb0 q0
  have HX := hide hX
  have zX := (Array.getElem?_eq_some_iff.1 q0).1
  have R1 : ∀ w' : World, (∃ p : Regrown, w' = Sort.grow (redrawn X p.d) p.os) → w'.heap[w.heap.size]? = some (.cells (updc home a b #[.int .i64 i, v1, v2, v3]) 29 (0, 0)) := fun w' ⟨p, hp⟩ => by rw [hp]; exact Below.at (below_regrown X p.d p.os) zX q0
  have RA : Hid (∀ w', (∃ p : Regrown, w' = Sort.grow (redrawn X p.d) p.os) → w'.rangeAt w.heap.size 1 (Lib.byteCells a)) := hide fun w' hp => updc_old home a b ha hb _ w' _ _ (R1 w' hp)
  have RB : Hid (∀ w', (∃ p : Regrown, w' = Sort.grow (redrawn X p.d) p.os) → w'.rangeAt w.heap.size 33 (Lib.byteCells b)) := hide fun w' hp => updc_new home a b ha hb _ w' _ _ (R1 w' hp)
  have RS : Hid (∀ w', (∃ p : Regrown, w' = Sort.grow (redrawn X p.d) p.os) → w'.rangeAt w.heap.size 65 [.int .i64 i, v1, v2, v3]) := hide fun w' hp => updc_sig home a b ha hb #[.int .i64 i, v1, v2, v3] rfl w' _ _ (R1 w' hp)
  have c0 : ∀ d os, (Sort.grow (redrawn X d) os).cell? ⟨w.heap.size, 0, none⟩ = some (.int .u32 (home : Int)) := fun d os => by
    rw [cell_of_row _ _ _ _ _ _ (R1 _ ⟨⟨d, os⟩, rfl⟩)]; exact updc_home home a b _
  have k1 := hide fun d os => Calls.regrown_of (w := X) (d := d) (os := os) (rbig_calls home 4 (by omega) (by decide) (by decide) _)
  have k2 := hide fun d os => Calls.regrown_of (w := X) (d := d) (os := os) (rbytes_calls a ha _)
  have k3 := hide fun d os => Calls.regrown_of (w := X) (d := d) (os := os) (rbytes_calls b hb _)
  have k4 := hide fun d os => Calls.regrown_of (w := X) (d := d) (os := os) (rsigr_calls i v1 v2 v3 l1 l2 l3 h1 h2 h3 _ (d1.below (hb0.trans ((below_regrown X d os).mono hb0.size))) (d2.below (hb0.trans ((below_regrown X d os).mono hb0.size))) (d3.below (hb0.trans ((below_regrown X d os).mono hb0.size))))
  have L1 := pBig_length home 4
  have L4 := pSig_len i l1 l2 l3
  generalize pBig home 4 = P1 at *
  generalize pSig i l1 l2 l3 = P4 at *
  have a1 := append_str P1 a
  have a2 : str (P1 ++ a) ++ str b = str (P1 ++ (a ++ b)) := by rw [append_str]; simp
  have a3 : str (P1 ++ (a ++ b)) ++ str P4 = str (P1 ++ (a ++ (b ++ P4))) := by rw [append_str]; simp
  have n1 : ¬ 9223372036854775807 < P1.length + a.length := by omega
  have n2 : ¬ 9223372036854775807 < P1.length + a.length + b.length := by omega
  have n3 : ¬ 9223372036854775807 < P1.length + (a.length + b.length) + P4.length := by omega
  have Ha := hide ha
  have Hb := hide hb
  obtain ⟨ROW, hROW⟩ : ∃ R, updc home a b #[.int .i64 i, v1, v2, v3] = R := ⟨_, rfl⟩
  rw [hROW] at HX ⊢
  clear R1 q0 zX hX ha d1 d2 d3 h1 h2 h3 L1 L4 hROW hb
  have hwh := wu64 (home : Int) (by omega) (by omega)
  go_enter Tryz.func11, Tryz.ntmps11
  go_wp2_with (rw [unhide HX])
  refine wp_region_below mixed (by kernel_rfl) ?_
  quiet_step (fail)
  quiet_step (fail)
  quiet_step (fail)
  quiet_step (exact unhide k1 _ _)
  quiet_step (fail)
  refine wpQuiet_load_mid rfl 24 (.tmp 7) rfl w.heap.size 1 rfl (Lib.byteCells a) _ (unhide RA) Tryz.underlying24 rfl (by rw [Lib.byteCells_length, unhide Ha]; kernel_rfl) ?_
  quiet_step (exact unhide k2 _ _)
  quiet_step (fail)
  quiet_step (fail)
  refine wpQuiet_load_mid rfl 24 (.tmp 11) rfl w.heap.size 33 rfl (Lib.byteCells b) _ (unhide RB) Tryz.underlying24 rfl (by rw [Lib.byteCells_length, unhide Hb]; kernel_rfl) ?_
  quiet_step (exact unhide k3 _ _)
  quiet_step (fail)
  quiet_step (fail)
  refine wpQuiet_load_mid rfl 27 (.tmp 15) rfl w.heap.size 65 rfl [.int .i64 i, v1, v2, v3] _ (unhide RS) Tryz.underlying27 rfl (by kernel_rfl) ?_
  quiet_step (exact unhide k4 _ _)
  repeat (quiet_step (fail))
  refine wpQuiet_nil ?_
  intro w3 hb3
  go_wp2
  go_ret
  exact ⟨rfl, hb0.trans (hb3.mono hb0.size)⟩
set_option maxHeartbeats 4000000 in
set_option maxRecDepth 100000 in
theorem dsbytes_calls (home : Nat) (hh : home < 4294967296) (a : List UInt8) (ha : a.length = 32) (x : Int) (i : Int) (v1 v2 v3 : Value) (l1 l2 l3 : List UInt8) (h1 : l1.length ≤ 137438953471) (h2 : l2.length ≤ 137438953471) (h3 : l3.length ≤ 137438953471) (w : World) (d1 : Digs w v1 l1) (d2 : Digs w v2 l2) (d3 : Digs w v3 l3) :
    Calls Tryz.prog 13 #[.agg (stopc home a x #[.int .i64 i, v1, v2, v3])] w fun e w' => e = .returned (.string (str (pStop home a x i l1 l2 l3))) ∧ Below w.heap.size w w' := by
  unfold pStop
  have hb0 := (Below.refl w.heap.size w).alloc (Nat.le_refl _) (.cells (stopc home a x #[.int .i64 i, v1, v2, v3]) 31)
  have q0 := al1 w (.cells (stopc home a x #[.int .i64 i, v1, v2, v3]) 31)
  obtain ⟨X, hX⟩ : ∃ X, w.alloc (.cells (stopc home a x #[.int .i64 i, v1, v2, v3]) 31) = X := ⟨_, rfl⟩
  rw [hX] at hb0 q0
  have HX := hide hX
  have zX := (Array.getElem?_eq_some_iff.1 q0).1
  have R1 : ∀ w' : World, (∃ p : Regrown, w' = Sort.grow (redrawn X p.d) p.os) → w'.heap[w.heap.size]? = some (.cells (stopc home a x #[.int .i64 i, v1, v2, v3]) 31 (0, 0)) := fun w' ⟨p, hp⟩ => by rw [hp]; exact Below.at (below_regrown X p.d p.os) zX q0
  have RA : Hid (∀ w', (∃ p : Regrown, w' = Sort.grow (redrawn X p.d) p.os) → w'.rangeAt w.heap.size 1 (Lib.byteCells a)) := hide fun w' hp => stopc_key home a ha x _ w' _ _ (R1 w' hp)
  have RS : Hid (∀ w', (∃ p : Regrown, w' = Sort.grow (redrawn X p.d) p.os) → w'.rangeAt w.heap.size 34 [.int .i64 i, v1, v2, v3]) := hide fun w' hp => stopc_sig home a ha x #[.int .i64 i, v1, v2, v3] rfl w' _ _ (R1 w' hp)
  have c0 : ∀ d os, (Sort.grow (redrawn X d) os).cell? ⟨w.heap.size, 0, none⟩ = some (.int .u32 (home : Int)) := fun d os => by
    rw [cell_of_row _ _ _ _ _ _ (R1 _ ⟨⟨d, os⟩, rfl⟩)]; exact stopc_home home a x _
  have c33 : ∀ d os, (Sort.grow (redrawn X d) os).cell? ⟨w.heap.size, 33, none⟩ = some (.int .i64 x) := fun d os => by
    rw [cell_of_row _ _ _ _ _ _ (R1 _ ⟨⟨d, os⟩, rfl⟩)]; exact stopc_who home a ha x _
  have k1 := hide fun d os => Calls.regrown_of (w := X) (d := d) (os := os) (rbig_calls home 4 (by omega) (by decide) (by decide) _)
  have k2 := hide fun d os => Calls.regrown_of (w := X) (d := d) (os := os) (rbytes_calls a ha _)
  obtain ⟨mx, hx0, hx2, hx1⟩ := wrap_low x
  have k3 := hide fun d os => Calls.regrown_of (w := X) (d := d) (os := os) (rbig_calls mx 4 hx2 (by decide) (by decide) _)
  rw [hx1] at k3
  have k4 := hide fun d os => Calls.regrown_of (w := X) (d := d) (os := os) (rsigr_calls i v1 v2 v3 l1 l2 l3 h1 h2 h3 _ (d1.below (hb0.trans ((below_regrown X d os).mono hb0.size))) (d2.below (hb0.trans ((below_regrown X d os).mono hb0.size))) (d3.below (hb0.trans ((below_regrown X d os).mono hb0.size))))
  have L1 := pBig_length home 4
  have L4 := pSig_len i l1 l2 l3
  have L3 := pBig_length (x % 4294967296).toNat 4
  generalize pBig (x % 4294967296).toNat 4 = P3 at *
  generalize pBig home 4 = P1 at *
  generalize pSig i l1 l2 l3 = P4 at *
  have a1 := append_str P1 a
  have a2 : str (P1 ++ a) ++ str P3 = str (P1 ++ (a ++ P3)) := by rw [append_str]; simp
  have a3 : str (P1 ++ (a ++ P3)) ++ str P4 = str (P1 ++ (a ++ (P3 ++ P4))) := by rw [append_str]; simp
  have n1 : ¬ 9223372036854775807 < P1.length + a.length := by omega
  have n2 : ¬ 9223372036854775807 < P1.length + a.length + P3.length := by omega
  have n3 : ¬ 9223372036854775807 < P1.length + (a.length + P3.length) + P4.length := by omega
  have Ha := hide ha
  obtain ⟨ROW, hROW⟩ : ∃ R, stopc home a x #[.int .i64 i, v1, v2, v3] = R := ⟨_, rfl⟩
  rw [hROW] at HX ⊢
  clear R1 q0 zX hX ha d1 d2 d3 h1 h2 h3 L1 L4 hROW L3 hx1 hx2
  have hwh := wu64 (home : Int) (by omega) (by omega)
  go_enter Tryz.func13, Tryz.ntmps13
  go_wp2_with (rw [unhide HX])
  refine wp_region_below mixed (by kernel_rfl) ?_
  quiet_step (fail)
  quiet_step (fail)
  quiet_step (fail)
  quiet_step (exact unhide k1 _ _)
  quiet_step (fail)
  refine wpQuiet_load_mid rfl 24 (.tmp 7) rfl w.heap.size 1 rfl (Lib.byteCells a) _ (unhide RA) Tryz.underlying24 rfl (by rw [Lib.byteCells_length, unhide Ha]; kernel_rfl) ?_
  quiet_step (exact unhide k2 _ _)
  quiet_step (fail)
  quiet_step (fail)
  quiet_step (fail)
  quiet_step (fail)
  quiet_step (exact unhide k3 _ _)
  quiet_step (fail)
  quiet_step (fail)
  refine wpQuiet_load_mid rfl 27 (.tmp 16) rfl w.heap.size 34 rfl [.int .i64 i, v1, v2, v3] _ (unhide RS) Tryz.underlying27 rfl (by kernel_rfl) ?_
  quiet_step (exact unhide k4 _ _)
  repeat (quiet_step (fail))
  refine wpQuiet_nil ?_
  intro w3 hb3
  go_wp2
  go_ret
  exact ⟨rfl, hb0.trans (hb3.mono hb0.size)⟩
end Go.Proofs.YtocibklkpnblgaaGreatDoor

namespace Go.Proofs.YtocibklkpnblgaaGreatDoor
open Go Go.RowKit

theorem mapM_some {α β : Type} (f : α → Option β) (g : α → β) (l : List α) (h : ∀ x ∈ l, f x = some (g x)) : l.mapM f = some (l.map g) := by
  induction l with
  | nil => rfl
  | cons x l ih =>
    rw [List.mapM_cons, h x (by simp), ih (fun y hy => h y (by simp [hy]))]; rfl

/-- The data of an array of integers. -/
theorem keyLits_ints {P : Program} (t e : TypeId) (n : Nat) (k : IntKind) (hu : P.underlying t = some (.array n e)) (he : P.underlying e = some (.int k)) (hce : P.cellsOf e = 1) (hct : P.cellsOf t = n)
    (zs : List Int) (hl : zs.length = n) (hw : ∀ z ∈ zs, (Lit.int k z).wf = true) : ∃ la, P.keyLits 2 t (zs.map (Value.int k)) = some la := by
  unfold Program.keyLits
  simp only [hu]
  rw [if_pos (by simp [hl, hct])]
  rw [mapM_some _ (fun i => [Lit.int k (zs.getD i 0)]) _ (fun i hi => ?_)]
  · exact ⟨_, rfl⟩
  · have hi' : i < zs.length := by rw [hl]; exact List.mem_range.1 hi
    rw [hce, Nat.mul_one, List.drop_eq_getElem_cons (by simpa using hi')]
    unfold Program.keyLits
    simp only [he]
    have hz : (Lit.int k zs[i]).wf = true := hw _ (List.getElem_mem _)
    simp [hz, hi']

theorem equalIn_refl {P : Program} (t : TypeId) (m D : Nat) (hm : m ≤ 10000) (hk : P.keyTypeAt m t = true) (cs : Array Value) (hf : (Value.agg cs).formed P t = true) (la : List Lit) (hla : P.keyLits D t cs.toList = some la) (w : World) :
    (Op.equalIn 10000 t (.agg cs) (.agg cs)).run P w = .ok true w := by
  obtain ⟨r, hr, hiff⟩ := run_equalIn_deep (P := P) (10000 - m) m t hk w D D (.agg cs) (.agg cs) la la hf hf hla hla
  rw [show 10000 - m + m = 10000 by omega] at hr
  obtain rfl : r = true := hiff.2 rfl
  exact hr
/-- A value of such a type equals itself. -/
theorem eql_refl {P : Program} (t : TypeId) (m D : Nat) (hm : m ≤ 10000) (hk : P.keyTypeAt m t = true) (cs : Array Value) (hf : (Value.agg cs).formed P t = true) (la : List Lit) (hla : P.keyLits D t cs.toList = some la) (w : World) :
    (binOp .eql t (.agg cs) (.agg cs)).run P w = .ok (.bool true) w := by
  obtain ⟨r, hr, hiff⟩ := run_equalIn_deep (P := P) (10000 - m) m t hk w D D (.agg cs) (.agg cs) la la hf hf hla hla
  rw [show 10000 - m + m = 10000 by omega] at hr
  obtain rfl : r = true := hiff.2 rfl
  rw [run_eql_struct, hr]; rfl

end Go.Proofs.YtocibklkpnblgaaGreatDoor

namespace Go.Proofs.YtocibklkpnblgaaGreatDoor
open Go.RowKit
set_option linter.unusedSimpArgs false
set_option linter.unusedVariables false

theorem digest_equal' (d : List UInt8) (hd : d.length = 32) (w : World) : (Op.equalIn 10000 24 (.agg (bc d)) (.agg (bc d))).run Tryz.prog w = .ok true w := by
  obtain ⟨la, hla⟩ := keyLits_ints (P := Tryz.prog) 24 5 32 .u8 Tryz.underlying24 Tryz.underlying5 (by kernel_rfl) (by kernel_rfl) (d.map fun b => (b.toNat : Int)) (by simpa using hd) (fun z hz => by
    obtain ⟨b, _, rfl⟩ := List.mem_map.1 hz
    have := b.toNat_lt
    simp [Lit.wf, IntKind.min, IntKind.max, IntKind.signed, IntKind.bits]; omega)
  refine equalIn_refl 24 2 2 (by omega) (by kernel_rfl) _ ?_ la ?_ w
  · simp only [Value.formed, Tryz.underlying24, bc_size, hd]; kernel_rfl
  · rw [← hla]; simp [bc, Lib.byteCells]; rfl
theorem digs_range {w : World} {b off n j : Nat} {l ch : List UInt8} (hby : Bytes w b off l) (hl : l.length = 32 * n) (hj : j < n) (hch : (l.drop (32 * j)).take 32 = ch) : w.rangeAt b (off + j * 32) (Lib.byteCells ch) := fun i v hv => by
  have hcl : ch.length = 32 := by rw [← hch, List.length_take, List.length_drop]; omega
  have hi : i < 32 := by
    have := (List.getElem?_eq_some_iff.1 hv).1
    rw [Lib.byteCells_length] at this; omega
  have h1 := hby (j * 32 + i) (by omega)
  rw [show off + j * 32 + i = off + (j * 32 + i) by omega, h1]
  have h2 := bc_at ch i (by omega)
  rw [bc, List.getElem?_toArray] at h2
  rw [h2] at hv
  rw [← Option.some.inj hv, ← hch]
  simp [List.getD_eq_getElem?_getD, List.getElem?_take, List.getElem?_drop, hi, Nat.mul_comm]
theorem digest_neq (d : List UInt8) (hd : d.length = 32) (w : World) : (binOp .neq 24 (.agg (bc d)) (.agg (bc d))).run Tryz.prog w = .ok (.bool false) w := by
  have h := digest_equal' d hd w
  have h' : (Op.equalIn Op.maxDepth 24 (.agg (bc d)) (.agg (bc d))).run Tryz.prog w = .ok true w := h
  simp [binOp, Op.equal, h']
set_option maxHeartbeats 1000000 in
set_option maxRecDepth 100000 in
theorem sameList_calls (v1 v2 : Value) (l : List UInt8) (hl : l.length ≤ 137438953471) (w : World) (D1 : Digs w v1 l) (D2 : Digs w v2 l) :
    Calls Tryz.prog 53 #[v1, v2] w fun e w' => e = .returned (.bool true) ∧ Below w.heap.size w w' := by
  obtain ⟨p1, n, cap1, rfl, hn, hp1⟩ := D1
  obtain ⟨p2, n2, cap2, rfl, hn2, hp2⟩ := D2
  obtain rfl : n2 = n := by omega
  have Hp1 := hide hp1
  have Hp2 := hide hp2
  have Hn := hide hn
  have hnb : n2 < 4294967296 := by omega
  clear hp1 hp2 hn hn2
  go_enter Tryz.func53, Tryz.ntmps53
  go_wp2
  go_loopw [13] (fun i wr => ∃ j : Nat, j ≤ n2 ∧ i = .int .i64 (j : Int) ∧ Below w.heap.size w wr) (fun i _ => n2 - (intOf i).toNat)
  case atStart => exact ⟨0, by omega, rfl, Below.refl _ _⟩
  case round =>
    obtain ⟨j, hj, rfl, hb⟩ := hrel
    have hln := unhide Hn
    by_cases hlt : j < n2
    · have hd : decide (j < n2) = true := by simpa using hlt
      have bk : (j : Int) < (n2 : Int) := by omega
      obtain ⟨b1, off1, rfl, hz1, hby1⟩ := unhide Hp1 (by omega)
      obtain ⟨b2, off2, rfl, hz2, hby2⟩ := unhide Hp2 (by omega)
      obtain ⟨ch, hch, hcl⟩ : ∃ ch : List UInt8, Hid ((l.drop (32 * j)).take 32 = ch) ∧ ch.length = 32 := ⟨_, rfl, by rw [List.length_take, List.length_drop]; omega⟩
      have hC : ∀ w', (∃ p : Regrown, w' = Sort.grow (redrawn wr p.d) p.os) → Below w.heap.size w w' := fun w' ⟨p, hp⟩ => by
        rw [hp]; exact hb.trans ((below_regrown wr p.d p.os).mono hb.size)
      have r1 : Hid (∀ w', (∃ p : Regrown, w' = Sort.grow (redrawn wr p.d) p.os) → w'.rangeAt b1 (off1 + j * 32) (Lib.byteCells ch)) := fun w' hw' => digs_range (hby1.below (hC w' hw') hz1) hln hlt (unhide hch)
      have r2 : Hid (∀ w', (∃ p : Regrown, w' = Sort.grow (redrawn wr p.d) p.os) → w'.rangeAt b2 (off2 + j * 32) (Lib.byteCells ch)) := fun w' hw' => digs_range (hby2.below (hC w' hw') hz2) hln hlt (unhide hch)
      have hil : (Tryz.prog.info? 24).map (·.size) = some (Lib.byteCells ch).length := by rw [Lib.byteCells_length, hcl]; kernel_rfl
      have hne : ∀ w, (binOp .neq 24 (.agg (Lib.byteCells ch).toArray) (.agg (Lib.byteCells ch).toArray)).run Tryz.prog w = .ok (.bool false) w := digest_neq ch hcl
      clear hln hC hby1 hby2 hz1 hz2
      go_wp2_with fail
      refine wp_region_below mixed (by kernel_rfl) ?_
      quiet_step (fail)
      quiet_step (fail)
      quiet_step (fail)
      refine wpQuiet_load_mid rfl 24 (.tmp 18) rfl b1 (off1 + j * 32) rfl (Lib.byteCells ch) _ (unhide r1) Tryz.underlying24 rfl hil ?_
      quiet_step (fail)
      quiet_step (fail)
      quiet_step (fail)
      refine wpQuiet_load_mid rfl 24 (.tmp 22) rfl b2 (off2 + j * 32) rfl (Lib.byteCells ch) _ (unhide r2) Tryz.underlying24 rfl hil ?_
      quiet_step (fail)
      refine wpQuiet_nil ?_
      intro w3 hb3
      clear hne hil r1 r2
      go_wp2
      go_roundw
      case rel => exact ⟨j + 1, by omega, by go_num, hb.trans (hb3.mono hb.size)⟩
      case measure => simp [intOf]; omega
    · have hd : decide (j < n2) = false := by simpa using hlt
      clear hln
      go_wp2
      go_ret
      exact ⟨rfl, hb⟩
set_option maxHeartbeats 1000000 in
theorem sameSig_calls (i : Int) (p1 p2 p3 q1 q2 q3 : Option Addr) (n1 n2 n3 c1 c2 c3 m1 m2 m3 e1 e2 e3 : Nat) (l1 l2 l3 : List UInt8) (h1 : l1.length ≤ 137438953471) (h2 : l2.length ≤ 137438953471) (h3 : l3.length ≤ 137438953471) (w : World)
    (A1 : Digs w (.slice p1 n1 c1) l1) (A2 : Digs w (.slice p2 n2 c2) l2) (A3 : Digs w (.slice p3 n3 c3) l3) (B1 : Digs w (.slice q1 m1 e1) l1) (B2 : Digs w (.slice q2 m2 e2) l2) (B3 : Digs w (.slice q3 m3 e3) l3) :
    Calls Tryz.prog 35 #[.agg #[.int .i64 i, .slice p1 n1 c1, .slice p2 n2 c2, .slice p3 n3 c3], .agg #[.int .i64 i, .slice q1 m1 e1, .slice q2 m2 e2, .slice q3 m3 e3]] w fun e w' => e = .returned (.bool true) ∧ Below w.heap.size w w' := by
  have r0 := (al2 w (.cells #[.int .i64 i, .slice p1 n1 c1, .slice p2 n2 c2, .slice p3 n3 c3] 27) (.cells #[.int .i64 i, .slice q1 m1 e1, .slice q2 m2 e2, .slice q3 m3 e3] 27)).1
  have r1 := (al2 w (.cells #[.int .i64 i, .slice p1 n1 c1, .slice p2 n2 c2, .slice p3 n3 c3] 27) (.cells #[.int .i64 i, .slice q1 m1 e1, .slice q2 m2 e2, .slice q3 m3 e3] 27)).2
  have hb0 := bel2 w (.cells #[.int .i64 i, .slice p1 n1 c1, .slice p2 n2 c2, .slice p3 n3 c3] 27) (.cells #[.int .i64 i, .slice q1 m1 e1, .slice q2 m2 e2, .slice q3 m3 e3] 27)
  have z0 : ((w.alloc (.cells #[.int .i64 i, .slice p1 n1 c1, .slice p2 n2 c2, .slice p3 n3 c3] 27)).alloc (.cells #[.int .i64 i, .slice q1 m1 e1, .slice q2 m2 e2, .slice q3 m3 e3] 27)).heap.size = w.heap.size + 1 + 1 := by simp
  go_enter Tryz.func35, Tryz.ntmps35
  go_wp2_with fail
  refine (sameList_calls _ _ l1 h1 ((w.alloc (.cells #[.int .i64 i, .slice p1 n1 c1, .slice p2 n2 c2, .slice p3 n3 c3] 27)).alloc (.cells #[.int .i64 i, .slice q1 m1 e1, .slice q2 m2 e2, .slice q3 m3 e3] 27)) (A1.below hb0) (B1.below hb0)).mono ?_
  generalize (w.alloc (.cells #[.int .i64 i, .slice p1 n1 c1, .slice p2 n2 c2, .slice p3 n3 c3] 27)).alloc (.cells #[.int .i64 i, .slice q1 m1 e1, .slice q2 m2 e2, .slice q3 m3 e3] 27) = X at *
  rintro e w1 ⟨rfl, hb1⟩
  have s0 := Below.at hb1 (by omega) r0
  have s1 := Below.at hb1 (by omega) r1
  have b1 := hb0.trans (hb1.mono hb0.size)
  have z1 := hb1.size
  have k02 : w1.cell? ⟨w.heap.size, 2, none⟩ = some (.slice p2 n2 c2) := (sig_cell s0).1 2 _ rfl
  have k12 : w1.cell? ⟨w.heap.size + 1, 2, none⟩ = some (.slice q2 m2 e2) := (sig_cell s1).1 2 _ rfl
  clear r0 r1 hb0 hb1
  go_wp2_with fail
  refine (sameList_calls _ _ l2 h2 w1 (A2.below b1) (B2.below b1)).mono ?_
  rintro e w2 ⟨rfl, hb2⟩
  have t0 := Below.at hb2 (by omega) s0
  have t1 := Below.at hb2 (by omega) s1
  have b2 := b1.trans (hb2.mono b1.size)
  have k03 : w2.cell? ⟨w.heap.size, 3, none⟩ = some (.slice p3 n3 c3) := (sig_cell t0).1 3 _ rfl
  have k13 : w2.cell? ⟨w.heap.size + 1, 3, none⟩ = some (.slice q3 m3 e3) := (sig_cell t1).1 3 _ rfl
  clear s0 s1 hb2 k02 k12 t0 t1
  go_wp2_with fail
  refine (sameList_calls _ _ l3 h3 w2 (A3.below b2) (B3.below b2)).mono ?_
  rintro e w3 ⟨rfl, hb3⟩
  clear k03 k13
  go_wp2
  go_ret
  exact ⟨rfl, b2.trans (hb3.mono b2.size)⟩
end Go.Proofs.YtocibklkpnblgaaGreatDoor

namespace Go.Proofs.YtocibklkpnblgaaGreatDoor
open Go.RowKit
set_option linter.unusedSimpArgs false
set_option linter.unusedVariables false

theorem take_back (a t : List UInt8) (n : Nat) (h : a.length = n) : (⟨a ++ t, 0⟩ : Rd).take n = (a, ⟨t, 0⟩) := by
  subst h
  simp [Rd.take]
theorem num_back (n k : Nat) (h : n < 256 ^ k) (t : List UInt8) : (⟨pBig n k ++ t, 0⟩ : Rd).num k = (n, ⟨t, 0⟩) := by
  simp only [Rd.num, take_back _ t k (pBig_length n k), pNum_pBig k n h]
theorem len_back (n : Nat) (h : n < 4294967296) (most : Int) (hm : (n : Int) ≤ most) (t : List UInt8) : (⟨pBig n 4 ++ t, 0⟩ : Rd).len most = (n, ⟨t, 0⟩) := by
  simp only [Rd.len, num_back n 4 h t]
  rw [if_neg (by omega)]
theorem text_back (s t : List UInt8) (h : s.length < 4294967296) : (⟨pText4 s ++ t, 0⟩ : Rd).text (s.length : Int) = (s, ⟨t, 0⟩) := by
  simp only [Rd.text, pText4, List.append_assoc, len_back s.length h (s.length : Int) (Int.le_refl _), take_back s t s.length rfl]
theorem digests_back (l t : List UInt8) (k : Nat) (h : l.length = 32 * k) (hk : k ≤ 32) : (⟨pDigests l ++ t, 0⟩ : Rd).digests 32 = (l, ⟨t, 0⟩) := by
  have e : l.length / 32 = k := by omega
  simp only [Rd.digests, pDigests, List.append_assoc, e, len_back k (by omega) 32 (by omega), take_back l t (32 * k) h]
theorem sig_back (i : Nat) (hi : i ≤ 2147483647) (l1 l2 l3 t : List UInt8) (k1 k2 k3 : Nat) (h1 : l1.length = 32 * k1) (h2 : l2.length = 32 * k2) (h3 : l3.length = 32 * k3) (m1 : k1 ≤ 32) (m2 : k2 ≤ 32) (m3 : k3 ≤ 32) :
    ((⟨pSig (i : Int) l1 l2 l3 ++ t, 0⟩ : Rd).num 4).1 = i ∧ (⟨pSig (i : Int) l1 l2 l3 ++ t, 0⟩ : Rd).d1.1 = l1 ∧ (⟨pSig (i : Int) l1 l2 l3 ++ t, 0⟩ : Rd).d2.1 = l2 ∧ (⟨pSig (i : Int) l1 l2 l3 ++ t, 0⟩ : Rd).d3 = (l3, ⟨t, 0⟩) := by
  have e : ((i : Int) % 4294967296).toNat = i := by omega
  have h0 : (⟨pSig (i : Int) l1 l2 l3 ++ t, 0⟩ : Rd).num 4 = (i, ⟨pDigests l1 ++ (pDigests l2 ++ (pDigests l3 ++ t)), 0⟩) := by
    rw [pSig, e]; simp only [List.append_assoc]; exact num_back i 4 (by show i < 4294967296; omega) _
  have hh : (⟨pSig (i : Int) l1 l2 l3 ++ t, 0⟩ : Rd).head = ⟨pDigests l1 ++ (pDigests l2 ++ (pDigests l3 ++ t)), 0⟩ := by
    unfold Rd.head; rw [h0, if_neg (by show ¬ 2147483647 < i; omega)]
  have hd1 : (⟨pSig (i : Int) l1 l2 l3 ++ t, 0⟩ : Rd).d1 = (l1, ⟨pDigests l2 ++ (pDigests l3 ++ t), 0⟩) := by
    unfold Rd.d1; rw [hh, digests_back l1 _ k1 h1 m1]
  have hd2 : (⟨pSig (i : Int) l1 l2 l3 ++ t, 0⟩ : Rd).d2 = (l2, ⟨pDigests l3 ++ t, 0⟩) := by
    unfold Rd.d2; rw [hd1, digests_back l2 _ k2 h2 m2]
  have hd3 : (⟨pSig (i : Int) l1 l2 l3 ++ t, 0⟩ : Rd).d3 = (l3, ⟨t, 0⟩) := by
    unfold Rd.d3; rw [hd2, digests_back l3 _ k3 h3 m3]
  exact ⟨by rw [h0], by rw [hd1], by rw [hd2], hd3⟩
end Go.Proofs.YtocibklkpnblgaaGreatDoor

namespace Go.Proofs.YtocibklkpnblgaaGreatDoor
open Go Go.RowKit

theorem wpList_load_row_gd {P : Program} {ops : Array Oper} {rest : List Oper} {o : Oper} {a : Act} {w : World} {Q : Exit → Act → World → Prop} (hw : Region.wanted o (yielded ops a.tmps) = true) (ty : TypeId) (x : Operand) (ho : o.op = .load ty x)
    (g : Nat) (hx : a.eval x = .pointer (some ⟨g, 0, none⟩)) (t : TypeId) (cs : Array Value) (fr : Nat × Nat) (d : TypeDesc) (hg : w.heap[g]? = some (.cells cs t fr))
    (hu : P.underlying ty = some d) (hd : (match d with | .struct _ | .array _ _ => true | _ => false) = true) (hi : (P.info? ty).map (·.size) = some cs.size)
    (h : wpList P ops Q rest (a.put o.dst (.agg cs)) w) : wpList P ops Q (o :: rest) a w :=
  wpList_step fun K hK => by
    rw [if_pos hw]
    exact wp_load_row ty x ho g hx t cs fr d hg hu hd hi (hK _ _ h)
end Go.Proofs.YtocibklkpnblgaaGreatDoor

namespace Go.Proofs.YtocibklkpnblgaaGreatDoor
open Go Go.RowKit
set_option linter.unusedSimpArgs false
set_option linter.unusedVariables false

theorem pad32_full (l : List UInt8) (h : l.length = 32) : pad32 l = l := by simp [pad32, h]
/-- What a reader reads. -/
structure UBack (r : Rd) (home : Nat) (a b : List UInt8) (i : Nat) (l1 l2 l3 : List UInt8) : Prop where
  (c1 : r.u1.1 = home) (c2 : pad32 r.u2.1 = a) (c3 : pad32 r.u3.1 = b) (c4 : (r.u3.2.num 4).1 = i) (c5 : r.u3.2.d1.1 = l1) (c6 : r.u3.2.d2.1 = l2) (c7 : r.u3.2.d3.1 = l3) (c8 : r.u3.2.d3.2.end' = 0)
theorem upd_back (home : Nat) (hh : home < 4294967296) (a b : List UInt8) (ha : a.length = 32) (hb : b.length = 32) (i : Nat) (hi : i ≤ 2147483647) (l1 l2 l3 : List UInt8) (k1 k2 k3 : Nat) (h1 : l1.length = 32 * k1) (h2 : l2.length = 32 * k2) (h3 : l3.length = 32 * k3) (m1 : k1 ≤ 32) (m2 : k2 ≤ 32) (m3 : k3 ≤ 32) :
    UBack ⟨pUpd home a b (i : Int) l1 l2 l3, 0⟩ home a b i l1 l2 l3 := by
  have e1 : (⟨pUpd home a b (i : Int) l1 l2 l3, 0⟩ : Rd).u1 = (home, ⟨a ++ (b ++ pSig (i : Int) l1 l2 l3), 0⟩) := num_back _ 4 hh _
  have e2 : (⟨pUpd home a b (i : Int) l1 l2 l3, 0⟩ : Rd).u2 = (a, ⟨b ++ pSig (i : Int) l1 l2 l3, 0⟩) := by rw [Rd.u2, e1]; exact take_back _ _ 32 ha
  have e3 : (⟨pUpd home a b (i : Int) l1 l2 l3, 0⟩ : Rd).u3 = (b, ⟨pSig (i : Int) l1 l2 l3, 0⟩) := by rw [Rd.u3, e2]; exact take_back _ _ 32 hb
  obtain ⟨s1, s2, s3, s4⟩ := sig_back i hi l1 l2 l3 [] k1 k2 k3 h1 h2 h3 m1 m2 m3
  rw [List.append_nil] at s1 s2 s3 s4
  refine ⟨by rw [e1], by rw [e2]; exact pad32_full a ha, by rw [e3]; exact pad32_full b hb, by rw [e3]; exact s1, by rw [e3]; exact s2, by rw [e3]; exact s3, by rw [e3, s4], by rw [e3, s4]; rfl⟩
theorem upd_read (l : List UInt8) (h : (⟨l, 0⟩ : Rd).u3.2.d3.2.end' = 0) : pUpd (⟨l, 0⟩ : Rd).u1.1 (pad32 (⟨l, 0⟩ : Rd).u2.1) (pad32 (⟨l, 0⟩ : Rd).u3.1) (((⟨l, 0⟩ : Rd).u3.2.num 4).1 : Int) (⟨l, 0⟩ : Rd).u3.2.d1.1 (⟨l, 0⟩ : Rd).u3.2.d2.1 (⟨l, 0⟩ : Rd).u3.2.d3.1 = l := by
  obtain ⟨o, z⟩ := Rd.end_ok _ h
  obtain ⟨o3, _, t4⟩ := Rd.sig_ok _ o
  obtain ⟨o2, t3, n3⟩ := Rd.take_ok _ _ o3
  obtain ⟨o1, t2, n2⟩ := Rd.take_ok _ _ o2
  obtain ⟨_, t1⟩ := Rd.num_ok _ _ o1
  rw [z, List.append_nil] at t4
  unfold pUpd
  rw [pad32_full (⟨l, 0⟩ : Rd).u2.1 n2, pad32_full (⟨l, 0⟩ : Rd).u3.1 n3, ← t4]
  rw [show (⟨l, 0⟩ : Rd).u3.1 ++ (⟨l, 0⟩ : Rd).u3.2.rest = (⟨l, 0⟩ : Rd).u2.2.rest from t3.symm, show (⟨l, 0⟩ : Rd).u2.1 ++ (⟨l, 0⟩ : Rd).u2.2.rest = (⟨l, 0⟩ : Rd).u1.2.rest from t2.symm]
  exact t1.symm
structure SBack (r : Rd) (home : Nat) (a : List UInt8) (x : Nat) (i : Nat) (l1 l2 l3 : List UInt8) : Prop where
  (c1 : r.u1.1 = home) (c2 : pad32 r.u2.1 = a) (c3 : r.s3.1 = x) (c4 : (r.s3.2.num 4).1 = i) (c5 : r.s3.2.d1.1 = l1) (c6 : r.s3.2.d2.1 = l2) (c7 : r.s3.2.d3.1 = l3) (c8 : pStopE r = 0)
theorem stop_back (home : Nat) (hh : home < 4294967296) (a : List UInt8) (ha : a.length = 32) (x : Nat) (hx : x ≤ 2147483647) (i : Nat) (hi : i ≤ 2147483647) (l1 l2 l3 : List UInt8) (k1 k2 k3 : Nat) (h1 : l1.length = 32 * k1) (h2 : l2.length = 32 * k2) (h3 : l3.length = 32 * k3) (m1 : k1 ≤ 32) (m2 : k2 ≤ 32) (m3 : k3 ≤ 32) :
    SBack ⟨pStop home a (x : Int) (i : Int) l1 l2 l3, 0⟩ home a x i l1 l2 l3 := by
  have ex : ((x : Int) % 4294967296).toNat = x := by omega
  have e1 : (⟨pStop home a (x : Int) (i : Int) l1 l2 l3, 0⟩ : Rd).u1 = (home, ⟨a ++ (pBig x 4 ++ pSig (i : Int) l1 l2 l3), 0⟩) := by rw [pStop, ex]; exact num_back _ 4 hh _
  have e2 : (⟨pStop home a (x : Int) (i : Int) l1 l2 l3, 0⟩ : Rd).u2 = (a, ⟨pBig x 4 ++ pSig (i : Int) l1 l2 l3, 0⟩) := by rw [Rd.u2, e1]; exact take_back _ _ 32 ha
  have e3 : (⟨pStop home a (x : Int) (i : Int) l1 l2 l3, 0⟩ : Rd).s3 = (x, ⟨pSig (i : Int) l1 l2 l3, 0⟩) := by rw [Rd.s3, e2]; exact num_back _ 4 (by show x < 4294967296; omega) _
  obtain ⟨s1, s2, s3, s4⟩ := sig_back i hi l1 l2 l3 [] k1 k2 k3 h1 h2 h3 m1 m2 m3
  rw [List.append_nil] at s1 s2 s3 s4
  refine ⟨by rw [e1], by rw [e2]; exact pad32_full a ha, by rw [e3], by rw [e3]; exact s1, by rw [e3]; exact s2, by rw [e3]; exact s3, by rw [e3, s4], ?_⟩
  unfold pStopE
  rw [e3, s4]
  simp only
  rw [if_neg (by simp [Rd.end']), if_neg (by omega)]
theorem stop_read (l : List UInt8) (h : pStopE (⟨l, 0⟩ : Rd) = 0) : pStop (⟨l, 0⟩ : Rd).u1.1 (pad32 (⟨l, 0⟩ : Rd).u2.1) ((⟨l, 0⟩ : Rd).s3.1 : Int) (((⟨l, 0⟩ : Rd).s3.2.num 4).1 : Int) (⟨l, 0⟩ : Rd).s3.2.d1.1 (⟨l, 0⟩ : Rd).s3.2.d2.1 (⟨l, 0⟩ : Rd).s3.2.d3.1 = l := by
  have h' : (⟨l, 0⟩ : Rd).s3.2.d3.2.end' = 0 := by
    unfold pStopE at h
    split at h
    · rename_i hn; exact absurd h hn
    · rename_i hn; apply Classical.byContradiction; exact hn
  obtain ⟨o, z⟩ := Rd.end_ok _ h'
  obtain ⟨o3, _, t4⟩ := Rd.sig_ok _ o
  obtain ⟨o2, t3⟩ := Rd.num_ok _ _ o3
  obtain ⟨o1, t2, n2⟩ := Rd.take_ok _ _ o2
  obtain ⟨_, t1⟩ := Rd.num_ok _ _ o1
  rw [z, List.append_nil] at t4
  have hx : (⟨l, 0⟩ : Rd).s3.1 < 4294967296 := Rd.num_lt _ 4
  unfold pStop
  rw [pad32_full (⟨l, 0⟩ : Rd).u2.1 n2, ← t4, show (((⟨l, 0⟩ : Rd).s3.1 : Int) % 4294967296).toNat = (⟨l, 0⟩ : Rd).s3.1 by omega]
  rw [show pBig (⟨l, 0⟩ : Rd).s3.1 4 ++ (⟨l, 0⟩ : Rd).s3.2.rest = (⟨l, 0⟩ : Rd).u2.2.rest from t3.symm, show (⟨l, 0⟩ : Rd).u2.1 ++ (⟨l, 0⟩ : Rd).u2.2.rest = (⟨l, 0⟩ : Rd).u1.2.rest from t2.symm]
  exact t1.symm
theorem Rd.digests_lt (r : Rd) (m : Int) : (r.digests m).1.length ≤ r.rest.length := Nat.le_trans (by
  unfold Rd.digests Rd.take
  split
  · simp
  · split
    · simp
    · simp; omega) (r.len_rest m)
theorem wpList_load_mid_gd {P : Program} {ops : Array Oper} {rest : List Oper} {o : Oper} {a : Act} {w : World} {Q : Exit → Act → World → Prop} (hw : Region.wanted o (yielded ops a.tmps) = true) (ty : TypeId) (x : Operand) (ho : o.op = .load ty x)
    (b off : Nat) (hx : a.eval x = .pointer (some ⟨b, off, none⟩)) (cs : List Value) (d : TypeDesc) (hc : w.rangeAt b off cs)
    (hu : P.underlying ty = some d) (hd : d.isRow = true) (hi : (P.info? ty).map (·.size) = some cs.length)
    (h : wpList P ops Q rest (a.put o.dst (.agg cs.toArray)) w) : wpList P ops Q (o :: rest) a w :=
  wpList_step fun K hK => by
    rw [if_pos hw]
    exact wp_load_mid ty x ho b off hx cs d hc hu hd hi (hK _ _ h)
theorem wpList_eql_gd {P : Program} {ops : Array Oper} {rest : List Oper} {o : Oper} {a : Act} {w : World} {Q : Exit → Act → World → Prop} (hw : Region.wanted o (yielded ops a.tmps) = true) (t t' : TypeId) (x y : Operand) (ho : o.op = .binOp .eql t x y t')
    (u v : Array Value) (hx : a.eval x = .agg u) (hy : a.eval y = .agg v) (hgt : P.eqGuardType P.depth t = false) (b : Bool) (he : ∀ w, (binOp .eql t (.agg u) (.agg v)).run P w = .ok (.bool b) w)
    (h : wpList P ops Q rest (a.put o.dst (.bool b)) w) : wpList P ops Q (o :: rest) a w :=
  wpList_step fun K hK => by
    rw [if_pos hw]
    have hg : (eqGuard .eql t x y (.agg u) (.agg v)).run P w = .ok () w := run_eqGuard_agg w .eql t x y u v hgt
    unfold Oper.wp execOp
    simp only [ho, hx, hy, Sem.run_bind, hg, Result.andThen_ok, he]
    exact hK _ _ h
theorem dinfo (d : List UInt8) (h : d.length = 32) : (Tryz.prog.info? 24).map (·.size) = some (Lib.byteCells d).length := by rw [Lib.byteCells_length, h]; kernel_rfl
theorem sinfo (cs : Array Value) (h : cs.size = 4) : (Tryz.prog.info? 27).map (·.size) = some cs.toList.length := by rw [Array.length_toList, h]; kernel_rfl
theorem dig_self' (d : List UInt8) (hd : d.length = 32) (w : World) : (binOp .eql 24 (.agg (Lib.byteCells d).toArray) (.agg (Lib.byteCells d).toArray)).run Tryz.prog w = .ok (.bool true) w := by
  have h := digest_equal' d hd w
  have h' : (Op.equalIn Op.maxDepth 24 (.agg (bc d)) (.agg (bc d))).run Tryz.prog w = .ok true w := h
  have : (binOp .eql 24 (.agg (bc d)) (.agg (bc d))).run Tryz.prog w = .ok (.bool true) w := by simp [binOp, Op.equal, h']
  exact this
set_option maxHeartbeats 2000000 in
set_option maxRecDepth 100000 in
theorem usame_calls (home : Nat) (a b : List UInt8) (ha : a.length = 32) (hb : b.length = 32) (cs ds : Array Value) (hc : cs.size = 4) (hd : ds.size = 4) (w : World)
    (hS : ∀ W, Below w.heap.size w W → Calls Tryz.prog 35 #[.agg cs, .agg ds] W fun e w' => e = .returned (.bool true) ∧ Below W.heap.size W w') :
    Calls Tryz.prog 14 #[.agg (updc home a b cs), .agg (updc home a b ds)] w fun e w' => e = .returned (.bool true) ∧ Below w.heap.size w w' := by
  obtain ⟨q0, q1⟩ := al2 w (.cells (updc home a b cs) 29) (.cells (updc home a b ds) 29)
  have hb0 := bel2 w (.cells (updc home a b cs) 29) (.cells (updc home a b ds) 29)
  obtain ⟨X, hX⟩ : ∃ X, (w.alloc (.cells (updc home a b cs) 29)).alloc (.cells (updc home a b ds) 29) = X := ⟨_, rfl⟩
  rw [hX] at q0 q1 hb0
  have HX := hide hX
  have HS := hide (hS X hb0)
  have c0 : X.cell? ⟨w.heap.size, 0, none⟩ = some (.int .u32 (home : Int)) := by rw [cell_of_row _ _ _ _ _ _ q0]; exact updc_home home a b cs
  have c1 : X.cell? ⟨w.heap.size + 1, 0, none⟩ = some (.int .u32 (home : Int)) := by rw [cell_of_row _ _ _ _ _ _ q1]; exact updc_home home a b ds
  have A0 := hide (updc_old home a b ha hb cs X _ _ q0)
  have A1 := hide (updc_old home a b ha hb ds X _ _ q1)
  have B0 := hide (updc_new home a b ha hb cs X _ _ q0)
  have B1 := hide (updc_new home a b ha hb ds X _ _ q1)
  have S0 := hide (updc_sig home a b ha hb cs hc X _ _ q0)
  have S1 := hide (updc_sig home a b ha hb ds hd X _ _ q1)
  have eb := hide fun W => dig_self' b hb W
  have ib := hide (dinfo b hb)
  have ea := hide fun W => dig_self' a ha W
  have ia := hide (dinfo a ha)
  have ic := hide (sinfo cs hc)
  have id := hide (sinfo ds hd)
  obtain ⟨R0, hR0⟩ : ∃ R, updc home a b cs = R := ⟨_, rfl⟩
  obtain ⟨R1, hR1⟩ : ∃ R, updc home a b ds = R := ⟨_, rfl⟩
  rw [hR0, hR1] at HX ⊢
  clear hR0 hR1 hX hS q0 q1 hc hd ha hb
  go_enter Tryz.func14, Tryz.ntmps14
  go_wp2_with (first
    | (rw [unhide HX])
    | (refine wpList_load_mid_gd rfl 24 (.tmp 11) rfl w.heap.size 1 rfl (Lib.byteCells a) _ (unhide A0) Tryz.underlying24 rfl (unhide ia) ?_)
    | (refine wpList_load_mid_gd rfl 24 (.tmp 13) rfl (w.heap.size + 1) 1 rfl (Lib.byteCells a) _ (unhide A1) Tryz.underlying24 rfl (unhide ia) ?_)
    | (refine wpList_eql_gd rfl 24 24 (.tmp 12) (.tmp 14) rfl _ _ rfl rfl (by kernel_rfl) true (unhide ea) ?_)
    | (refine wpList_load_mid_gd rfl 24 (.tmp 18) rfl w.heap.size 33 rfl (Lib.byteCells b) _ (unhide B0) Tryz.underlying24 rfl (unhide ib) ?_)
    | (refine wpList_load_mid_gd rfl 24 (.tmp 20) rfl (w.heap.size + 1) 33 rfl (Lib.byteCells b) _ (unhide B1) Tryz.underlying24 rfl (unhide ib) ?_)
    | (refine wpList_eql_gd rfl 24 24 (.tmp 19) (.tmp 21) rfl _ _ rfl rfl (by kernel_rfl) true (unhide eb) ?_)
    | (refine wpList_load_mid_gd rfl 27 (.tmp 25) rfl w.heap.size 65 rfl cs.toList _ (unhide S0) Tryz.underlying27 rfl (unhide ic) ?_)
    | (refine wpList_load_mid_gd rfl 27 (.tmp 27) rfl (w.heap.size + 1) 65 rfl ds.toList _ (unhide S1) Tryz.underlying27 rfl (unhide id) ?_))
  refine (unhide HS).mono ?_
  rintro e w1 ⟨rfl, b1⟩
  go_wp2
  go_ret
  exact ⟨rfl, hb0.trans (b1.mono hb0.size)⟩
set_option maxHeartbeats 2000000 in
set_option maxRecDepth 100000 in
theorem ssame_calls (home : Nat) (a : List UInt8) (ha : a.length = 32) (x : Int) (cs ds : Array Value) (hc : cs.size = 4) (hd : ds.size = 4) (w : World)
    (hS : ∀ W, Below w.heap.size w W → Calls Tryz.prog 35 #[.agg cs, .agg ds] W fun e w' => e = .returned (.bool true) ∧ Below W.heap.size W w') :
    Calls Tryz.prog 15 #[.agg (stopc home a x cs), .agg (stopc home a x ds)] w fun e w' => e = .returned (.bool true) ∧ Below w.heap.size w w' := by
  obtain ⟨q0, q1⟩ := al2 w (.cells (stopc home a x cs) 31) (.cells (stopc home a x ds) 31)
  have hb0 := bel2 w (.cells (stopc home a x cs) 31) (.cells (stopc home a x ds) 31)
  obtain ⟨X, hX⟩ : ∃ X, (w.alloc (.cells (stopc home a x cs) 31)).alloc (.cells (stopc home a x ds) 31) = X := ⟨_, rfl⟩
  rw [hX] at q0 q1 hb0
  have HX := hide hX
  have HS := hide (hS X hb0)
  have c0 : X.cell? ⟨w.heap.size, 0, none⟩ = some (.int .u32 (home : Int)) := by rw [cell_of_row _ _ _ _ _ _ q0]; exact stopc_home home a x cs
  have c1 : X.cell? ⟨w.heap.size + 1, 0, none⟩ = some (.int .u32 (home : Int)) := by rw [cell_of_row _ _ _ _ _ _ q1]; exact stopc_home home a x ds
  have d0 : X.cell? ⟨w.heap.size, 33, none⟩ = some (.int .i64 x) := by rw [cell_of_row _ _ _ _ _ _ q0]; exact stopc_who home a ha x cs
  have d1 : X.cell? ⟨w.heap.size + 1, 33, none⟩ = some (.int .i64 x) := by rw [cell_of_row _ _ _ _ _ _ q1]; exact stopc_who home a ha x ds
  have A0 := hide (stopc_key home a ha x cs X _ _ q0)
  have A1 := hide (stopc_key home a ha x ds X _ _ q1)
  have S0 := hide (stopc_sig home a ha x cs hc X _ _ q0)
  have S1 := hide (stopc_sig home a ha x ds hd X _ _ q1)
  have ea := hide fun W => dig_self' a ha W
  have ia := hide (dinfo a ha)
  have ic := hide (sinfo cs hc)
  have id := hide (sinfo ds hd)
  obtain ⟨R0, hR0⟩ : ∃ R, stopc home a x cs = R := ⟨_, rfl⟩
  obtain ⟨R1, hR1⟩ : ∃ R, stopc home a x ds = R := ⟨_, rfl⟩
  rw [hR0, hR1] at HX ⊢
  clear hR0 hR1 hX hS q0 q1 hc hd ha 
  go_enter Tryz.func15, Tryz.ntmps15
  go_wp2_with (first
    | (rw [unhide HX])
    | (refine wpList_load_mid_gd rfl 24 (.tmp 11) rfl w.heap.size 1 rfl (Lib.byteCells a) _ (unhide A0) Tryz.underlying24 rfl (unhide ia) ?_)
    | (refine wpList_load_mid_gd rfl 24 (.tmp 13) rfl (w.heap.size + 1) 1 rfl (Lib.byteCells a) _ (unhide A1) Tryz.underlying24 rfl (unhide ia) ?_)
    | (refine wpList_eql_gd rfl 24 24 (.tmp 12) (.tmp 14) rfl _ _ rfl rfl (by kernel_rfl) true (unhide ea) ?_)
    | (refine wpList_load_mid_gd rfl 27 (.tmp 25) rfl w.heap.size 34 rfl cs.toList _ (unhide S0) Tryz.underlying27 rfl (unhide ic) ?_)
    | (refine wpList_load_mid_gd rfl 27 (.tmp 27) rfl (w.heap.size + 1) 34 rfl ds.toList _ (unhide S1) Tryz.underlying27 rfl (unhide id) ?_))
  refine (unhide HS).mono ?_
  rintro e w1 ⟨rfl, b1⟩
  go_wp2
  go_ret
  exact ⟨rfl, hb0.trans (b1.mono hb0.size)⟩
end Go.Proofs.YtocibklkpnblgaaGreatDoor

namespace Go.Proofs.YtocibklkpnblgaaGreatDoor
open Go Go.RowKit
set_option linter.unusedSimpArgs false
set_option linter.unusedVariables false

def uE (l : List UInt8) : Int := (⟨l, 0⟩ : Rd).u3.2.d3.2.end'
def sE (l : List UInt8) : Int := pStopE (⟨l, 0⟩ : Rd)
theorem Rd.take_rest' (r : Rd) (n : Nat) : (r.take n).2.rest.length ≤ r.rest.length := Rd.take_rest _ _
theorem uread_s (l : List UInt8) (hl : l.length ≤ 10000) (w : World) :
    Calls Tryz.prog 6 #[.string (str l)] w fun e w' => ∃ row : Array Value, e = .returned (.tuple #[.agg row, .int .i64 (uE l)]) ∧ Hid (row.size = 69) ∧ row.all (·.oneCell') = true ∧ Below w.heap.size w w' ∧
      Hid (uE l = 0 → ∀ W : World, (∀ k, w.heap.size ≤ k → k < w'.heap.size → W.heap[k]? = w'.heap[k]?) → Calls Tryz.prog 10 #[.agg row] W fun e w'' => e = .returned (.string (str l)) ∧ Below W.heap.size W w'') := by
  refine (uread_calls l (by omega) w).mono ?_
  rintro e w' ⟨row, rfl, bel, h1, h0⟩
  by_cases hE : uE l = 0
  · obtain ⟨v1, v2, v3, er, d1, d2, d3⟩ := unhide h0 hE
    have p2 := (⟨l, 0⟩ : Rd).u2_len
    have p3 := (⟨l, 0⟩ : Rd).u3_len
    have hl' : (⟨l, 0⟩ : Rd).rest.length ≤ 10000 := hl
    have m1 : (⟨l, 0⟩ : Rd).u1.2.rest.length ≤ (⟨l, 0⟩ : Rd).rest.length := Rd.take_rest' _ _
    have m2 : (⟨l, 0⟩ : Rd).u2.2.rest.length ≤ (⟨l, 0⟩ : Rd).u1.2.rest.length := Rd.take_rest' _ _
    have m3 : (⟨l, 0⟩ : Rd).u3.2.rest.length ≤ (⟨l, 0⟩ : Rd).u2.2.rest.length := Rd.take_rest' _ _
    have n0 := (⟨l, 0⟩ : Rd).u3.2.head_rest
    have n1 := (⟨l, 0⟩ : Rd).u3.2.d1_rest
    have n2 := (⟨l, 0⟩ : Rd).u3.2.d2_rest
    have k1 : (⟨l, 0⟩ : Rd).u3.2.d1.1.length ≤ _ := Rd.digests_lt _ _
    have k2 : (⟨l, 0⟩ : Rd).u3.2.d2.1.length ≤ _ := Rd.digests_lt _ _
    have k3 : (⟨l, 0⟩ : Rd).u3.2.d3.1.length ≤ _ := Rd.digests_lt _ _
    have hh : (⟨l, 0⟩ : Rd).u1.1 < 4294967296 := Rd.num_lt _ 4
    refine ⟨row, rfl, ?_, ?_, bel, fun _ W hW => ?_⟩
    · rw [er]; exact updc_size _ _ _ p2 p3 _ rfl
    · rw [er]; exact updc_one _ _ _ _ (by simp [d1.one, d2.one, d3.one, show ∀ n : Int, (Value.int .i64 n).oneCell' = true from fun _ => rfl])
    · rw [er]
      have := ubytes_calls _ hh _ _ p2 p3 (((⟨l, 0⟩ : Rd).u3.2.num 4).1 : Int) v1 v2 v3 _ _ _ (by omega) (by omega) (by omega) W (d1.keep hW (Nat.le_refl _)).digs (d2.keep hW (Nat.le_refl _)).digs (d3.keep hW (Nat.le_refl _)).digs
      rw [upd_read l hE] at this
      exact this
  · refine ⟨row, rfl, ?_, ?_, bel, fun h => absurd h hE⟩
    · rw [unhide h1 hE]; exact (rfl : updO.size = 69)
    · rw [unhide h1 hE]; exact updc_one _ _ _ _ (by simp [sig0, Value.oneCell'])
theorem sread_s (l : List UInt8) (hl : l.length ≤ 10000) (w : World) :
    Calls Tryz.prog 8 #[.string (str l)] w fun e w' => ∃ row : Array Value, e = .returned (.tuple #[.agg row, .int .i64 (sE l)]) ∧ Hid (row.size = 38) ∧ row.all (·.oneCell') = true ∧ Below w.heap.size w w' ∧
      Hid (sE l = 0 → ∀ W : World, (∀ k, w.heap.size ≤ k → k < w'.heap.size → W.heap[k]? = w'.heap[k]?) → Calls Tryz.prog 12 #[.agg row] W fun e w'' => e = .returned (.string (str l)) ∧ Below W.heap.size W w'') := by
  refine (sread_calls l (by omega) w).mono ?_
  rintro e w' ⟨row, rfl, bel, h1, h0⟩
  by_cases hE : sE l = 0
  · obtain ⟨v1, v2, v3, er, d1, d2, d3⟩ := unhide h0 hE
    have p2 := (⟨l, 0⟩ : Rd).u2_len
    have hl' : (⟨l, 0⟩ : Rd).rest.length ≤ 10000 := hl
    have m1 : (⟨l, 0⟩ : Rd).u1.2.rest.length ≤ (⟨l, 0⟩ : Rd).rest.length := Rd.take_rest' _ _
    have m2 : (⟨l, 0⟩ : Rd).u2.2.rest.length ≤ (⟨l, 0⟩ : Rd).u1.2.rest.length := Rd.take_rest' _ _
    have m3 : (⟨l, 0⟩ : Rd).s3.2.rest.length ≤ (⟨l, 0⟩ : Rd).u2.2.rest.length := Rd.take_rest' _ _
    have n0 := (⟨l, 0⟩ : Rd).s3.2.head_rest
    have n1 := (⟨l, 0⟩ : Rd).s3.2.d1_rest
    have n2 := (⟨l, 0⟩ : Rd).s3.2.d2_rest
    have k1 : (⟨l, 0⟩ : Rd).s3.2.d1.1.length ≤ _ := Rd.digests_lt _ _
    have k2 : (⟨l, 0⟩ : Rd).s3.2.d2.1.length ≤ _ := Rd.digests_lt _ _
    have k3 : (⟨l, 0⟩ : Rd).s3.2.d3.1.length ≤ _ := Rd.digests_lt _ _
    have hh : (⟨l, 0⟩ : Rd).u1.1 < 4294967296 := Rd.num_lt _ 4
    refine ⟨row, rfl, ?_, ?_, bel, fun _ W hW => ?_⟩
    · rw [er]; exact stopc_size _ _ p2 _ _ rfl
    · rw [er]; exact stopc_one _ _ _ _ (by simp [d1.one, d2.one, d3.one, show ∀ n : Int, (Value.int .i64 n).oneCell' = true from fun _ => rfl])
    · rw [er]
      have := sbytes_calls _ hh _ p2 ((⟨l, 0⟩ : Rd).s3.1 : Int) (((⟨l, 0⟩ : Rd).s3.2.num 4).1 : Int) v1 v2 v3 _ _ _ (by omega) (by omega) (by omega) W (d1.keep hW (Nat.le_refl _)).digs (d2.keep hW (Nat.le_refl _)).digs (d3.keep hW (Nat.le_refl _)).digs
      rw [stop_read l hE] at this
      exact this
  · refine ⟨row, rfl, ?_, ?_, bel, fun h => absurd h hE⟩
    · rw [unhide h1 hE]; exact (rfl : stopO.size = 38)
    · rw [unhide h1 hE]; exact stopc_one _ _ _ _ (by simp [sig0, Value.oneCell'])
end Go.Proofs.YtocibklkpnblgaaGreatDoor

namespace Go.Proofs.YtocibklkpnblgaaGreatDoor
open Go Go.RowKit
set_option linter.unusedSimpArgs false
set_option linter.unusedVariables false

theorem NewD.sl {B : Nat} {w : World} {v : Value} {l : List UInt8} (h : NewD B w v l) : ∃ p n c, v = .slice p n c ∧ Digs w v l := by
  obtain ⟨b, k, rfl, _⟩ := h.ex
  exact ⟨_, _, _, rfl, h.digs⟩

/-- What was read, as a row. -/
structure UpR (l : List UInt8) (w : World) (row : Array Value) : Prop where
  bad : uE l ≠ 0 → row = updO
  good : uE l = 0 → ∃ p1 n1 c1 p2 n2 c2 p3 n3 c3, row = updc (⟨l, 0⟩ : Rd).u1.1 (pad32 (⟨l, 0⟩ : Rd).u2.1) (pad32 (⟨l, 0⟩ : Rd).u3.1) #[.int .i64 ((((⟨l, 0⟩ : Rd).u3).2.num 4).1 : Int), .slice p1 n1 c1, .slice p2 n2 c2, .slice p3 n3 c3] ∧ Digs w (.slice p1 n1 c1) (((⟨l, 0⟩ : Rd).u3).2.d1).1 ∧ Digs w (.slice p2 n2 c2) (((⟨l, 0⟩ : Rd).u3).2.d2).1 ∧ Digs w (.slice p3 n3 c3) (((⟨l, 0⟩ : Rd).u3).2.d3).1
theorem UpR.below {l : List UInt8} {w w' : World} {row : Array Value} (h : UpR l w row) (hb : Below w.heap.size w w') : UpR l w' row :=
  ⟨h.bad, fun e => by obtain ⟨p1, n1, c1, p2, n2, c2, p3, n3, c3, er, d1, d2, d3⟩ := h.good e; exact ⟨p1, n1, c1, p2, n2, c2, p3, n3, c3, er, d1.below hb, d2.below hb, d3.below hb⟩⟩

/-- What was read, as a row. -/
structure StR (l : List UInt8) (w : World) (row : Array Value) : Prop where
  bad : sE l ≠ 0 → row = stopO
  good : sE l = 0 → ∃ p1 n1 c1 p2 n2 c2 p3 n3 c3, row = stopc (⟨l, 0⟩ : Rd).u1.1 (pad32 (⟨l, 0⟩ : Rd).u2.1) ((⟨l, 0⟩ : Rd).s3.1 : Int) #[.int .i64 ((((⟨l, 0⟩ : Rd).s3).2.num 4).1 : Int), .slice p1 n1 c1, .slice p2 n2 c2, .slice p3 n3 c3] ∧ Digs w (.slice p1 n1 c1) (((⟨l, 0⟩ : Rd).s3).2.d1).1 ∧ Digs w (.slice p2 n2 c2) (((⟨l, 0⟩ : Rd).s3).2.d2).1 ∧ Digs w (.slice p3 n3 c3) (((⟨l, 0⟩ : Rd).s3).2.d3).1
theorem StR.below {l : List UInt8} {w w' : World} {row : Array Value} (h : StR l w row) (hb : Below w.heap.size w w') : StR l w' row :=
  ⟨h.bad, fun e => by obtain ⟨p1, n1, c1, p2, n2, c2, p3, n3, c3, er, d1, d2, d3⟩ := h.good e; exact ⟨p1, n1, c1, p2, n2, c2, p3, n3, c3, er, d1.below hb, d2.below hb, d3.below hb⟩⟩
theorem UpR.size {l : List UInt8} {w : World} {row : Array Value} (h : UpR l w row) : Hid (row.size = 69) ∧ row.all (·.oneCell') = true := by
  by_cases hE : uE l = 0
  · obtain ⟨p1, n1, c1, p2, n2, c2, p3, n3, c3, er, _⟩ := h.good hE
    rw [er]
    exact ⟨updc_size _ _ _ (⟨l, 0⟩ : Rd).u2_len (⟨l, 0⟩ : Rd).u3_len _ rfl, updc_one _ _ _ _ (by simp [Value.oneCell'])⟩
  · rw [h.bad hE]
    exact ⟨(rfl : updO.size = 69), updc_one _ _ _ _ (by simp [sig0, Value.oneCell'])⟩
theorem StR.size {l : List UInt8} {w : World} {row : Array Value} (h : StR l w row) : Hid (row.size = 38) ∧ row.all (·.oneCell') = true := by
  by_cases hE : sE l = 0
  · obtain ⟨p1, n1, c1, p2, n2, c2, p3, n3, c3, er, _⟩ := h.good hE
    rw [er]
    exact ⟨stopc_size _ _ (⟨l, 0⟩ : Rd).u2_len _ _ rfl, stopc_one _ _ _ _ (by simp [Value.oneCell'])⟩
  · rw [h.bad hE]
    exact ⟨(rfl : stopO.size = 38), stopc_one _ _ _ _ (by simp [sig0, Value.oneCell'])⟩
theorem Digs.nil (w : World) : Digs w (.slice none 0 0) [] := ⟨none, 0, 0, rfl, rfl, fun h => absurd h (Nat.lt_irrefl 0)⟩
theorem upR_same (l : List UInt8) (hl : l.length ≤ 10000) (w : World) (r1 r2 : Array Value) (h1 : UpR l w r1) (h2 : UpR l w r2) :
    Calls Tryz.prog 14 #[.agg r1, .agg r2] w fun e w' => e = .returned (.bool true) ∧ Below w.heap.size w w' := by
  have hl' : (⟨l, 0⟩ : Rd).rest.length ≤ 10000 := hl
  have m1 : (⟨l, 0⟩ : Rd).u1.2.rest.length ≤ (⟨l, 0⟩ : Rd).rest.length := Rd.take_rest' _ _
  have m2 : (⟨l, 0⟩ : Rd).u2.2.rest.length ≤ (⟨l, 0⟩ : Rd).u1.2.rest.length := Rd.take_rest' _ _
  have m3 : (⟨l, 0⟩ : Rd).u3.2.rest.length ≤ (⟨l, 0⟩ : Rd).u2.2.rest.length := Rd.take_rest' _ _
  have n0 := (⟨l, 0⟩ : Rd).u3.2.head_rest
  have n1 := (⟨l, 0⟩ : Rd).u3.2.d1_rest
  have n2 := (⟨l, 0⟩ : Rd).u3.2.d2_rest
  have k1 : (⟨l, 0⟩ : Rd).u3.2.d1.1.length ≤ _ := Rd.digests_lt _ _
  have k2 : (⟨l, 0⟩ : Rd).u3.2.d2.1.length ≤ _ := Rd.digests_lt _ _
  have k3 : (⟨l, 0⟩ : Rd).u3.2.d3.1.length ≤ _ := Rd.digests_lt _ _
  by_cases hE : uE l = 0
  · obtain ⟨p1, n1', c1, p2, n2', c2, p3, n3', c3, er, d1, d2, d3⟩ := h1.good hE
    obtain ⟨q1, o1, e1, q2, o2, e2, q3, o3, e3, es, f1, f2, f3⟩ := h2.good hE
    rw [er, es]
    exact usame_calls _ _ _ (⟨l, 0⟩ : Rd).u2_len (⟨l, 0⟩ : Rd).u3_len _ _ rfl rfl w (fun W hW => sameSig_calls _ p1 p2 p3 q1 q2 q3 n1' n2' n3' c1 c2 c3 o1 o2 o3 e1 e2 e3 _ _ _ (by omega) (by omega) (by omega) W (d1.below hW) (d2.below hW) (d3.below hW) (f1.below hW) (f2.below hW) (f3.below hW))
  · rw [h1.bad hE, h2.bad hE]
    exact usame_calls 0 z32 z32 rfl rfl sig0 sig0 rfl rfl w (fun W hW => sameSig_calls 0 none none none none none none 0 0 0 0 0 0 0 0 0 0 0 0 [] [] [] (by simp) (by simp) (by simp) W (Digs.nil W) (Digs.nil W) (Digs.nil W) (Digs.nil W) (Digs.nil W) (Digs.nil W))
theorem stR_same (l : List UInt8) (hl : l.length ≤ 10000) (w : World) (r1 r2 : Array Value) (h1 : StR l w r1) (h2 : StR l w r2) :
    Calls Tryz.prog 15 #[.agg r1, .agg r2] w fun e w' => e = .returned (.bool true) ∧ Below w.heap.size w w' := by
  have hl' : (⟨l, 0⟩ : Rd).rest.length ≤ 10000 := hl
  have m1 : (⟨l, 0⟩ : Rd).u1.2.rest.length ≤ (⟨l, 0⟩ : Rd).rest.length := Rd.take_rest' _ _
  have m2 : (⟨l, 0⟩ : Rd).u2.2.rest.length ≤ (⟨l, 0⟩ : Rd).u1.2.rest.length := Rd.take_rest' _ _
  have m3 : (⟨l, 0⟩ : Rd).s3.2.rest.length ≤ (⟨l, 0⟩ : Rd).u2.2.rest.length := Rd.take_rest' _ _
  have n0 := (⟨l, 0⟩ : Rd).s3.2.head_rest
  have n1 := (⟨l, 0⟩ : Rd).s3.2.d1_rest
  have n2 := (⟨l, 0⟩ : Rd).s3.2.d2_rest
  have k1 : (⟨l, 0⟩ : Rd).s3.2.d1.1.length ≤ _ := Rd.digests_lt _ _
  have k2 : (⟨l, 0⟩ : Rd).s3.2.d2.1.length ≤ _ := Rd.digests_lt _ _
  have k3 : (⟨l, 0⟩ : Rd).s3.2.d3.1.length ≤ _ := Rd.digests_lt _ _
  by_cases hE : sE l = 0
  · obtain ⟨p1, n1', c1, p2, n2', c2, p3, n3', c3, er, d1, d2, d3⟩ := h1.good hE
    obtain ⟨q1, o1, e1, q2, o2, e2, q3, o3, e3, es, f1, f2, f3⟩ := h2.good hE
    rw [er, es]
    exact ssame_calls _ _ (⟨l, 0⟩ : Rd).u2_len _ _ _ rfl rfl w (fun W hW => sameSig_calls _ p1 p2 p3 q1 q2 q3 n1' n2' n3' c1 c2 c3 o1 o2 o3 e1 e2 e3 _ _ _ (by omega) (by omega) (by omega) W (d1.below hW) (d2.below hW) (d3.below hW) (f1.below hW) (f2.below hW) (f3.below hW))
  · rw [h1.bad hE, h2.bad hE]
    exact ssame_calls 0 z32 rfl 0 sig0 sig0 rfl rfl w (fun W hW => sameSig_calls 0 none none none none none none 0 0 0 0 0 0 0 0 0 0 0 0 [] [] [] (by simp) (by simp) (by simp) W (Digs.nil W) (Digs.nil W) (Digs.nil W) (Digs.nil W) (Digs.nil W) (Digs.nil W))
theorem DL4.form' {B : Nat} {w : World} {v : Value} {l : List UInt8} (h : DL4 B w v l) : ∃ p n c, v = .slice p n c ∧ Digs w v l := h.form
theorem upR_p (l : List UInt8) (hl : l.length ≤ 10000) (w : World) :
    Calls Tryz.prog 6 #[.string (str l)] w fun e w' => ∃ row : Array Value, e = .returned (.tuple #[.agg row, .int .i64 (uE l)]) ∧ UpR l w' row ∧ Below w.heap.size w w' := by
  refine (uread_calls l (by omega) w).mono ?_
  rintro e w' ⟨row, rfl, bel, h1, h0⟩
  refine ⟨row, rfl, ⟨fun h => unhide h1 h, fun h => ?_⟩, bel⟩
  obtain ⟨v1, v2, v3, er, d1, d2, d3⟩ := unhide h0 h
  obtain ⟨p1, n1, c1, rfl, x1⟩ := NewD.sl d1
  obtain ⟨p2, n2, c2, rfl, x2⟩ := NewD.sl d2
  obtain ⟨p3, n3, c3, rfl, x3⟩ := NewD.sl d3
  exact ⟨p1, n1, c1, p2, n2, c2, p3, n3, c3, er, x1, x2, x3⟩
theorem upR_d (l : List UInt8) (hl : l.length ≤ 10000) (w : World) :
    Calls Tryz.prog 7 #[.string (str l)] w fun e w' => ∃ row : Array Value, e = .returned (.tuple #[.agg row, .int .i64 (uE l)]) ∧ UpR l w' row ∧ Below w.heap.size w w' := by
  refine (duread_calls l (by omega) w).mono ?_
  rintro e w' ⟨row, rfl, bel, h1, h0⟩
  refine ⟨row, rfl, ⟨fun h => unhide h1 h, fun h => ?_⟩, bel⟩
  obtain ⟨v1, v2, v3, er, d1, d2, d3⟩ := unhide h0 h
  obtain ⟨p1, n1, c1, rfl, x1⟩ := DL4.form' d1
  obtain ⟨p2, n2, c2, rfl, x2⟩ := DL4.form' d2
  obtain ⟨p3, n3, c3, rfl, x3⟩ := DL4.form' d3
  exact ⟨p1, n1, c1, p2, n2, c2, p3, n3, c3, er, x1, x2, x3⟩
theorem stR_p (l : List UInt8) (hl : l.length ≤ 10000) (w : World) :
    Calls Tryz.prog 8 #[.string (str l)] w fun e w' => ∃ row : Array Value, e = .returned (.tuple #[.agg row, .int .i64 (sE l)]) ∧ StR l w' row ∧ Below w.heap.size w w' := by
  refine (sread_calls l (by omega) w).mono ?_
  rintro e w' ⟨row, rfl, bel, h1, h0⟩
  refine ⟨row, rfl, ⟨fun h => unhide h1 h, fun h => ?_⟩, bel⟩
  obtain ⟨v1, v2, v3, er, d1, d2, d3⟩ := unhide h0 h
  obtain ⟨p1, n1, c1, rfl, x1⟩ := NewD.sl d1
  obtain ⟨p2, n2, c2, rfl, x2⟩ := NewD.sl d2
  obtain ⟨p3, n3, c3, rfl, x3⟩ := NewD.sl d3
  exact ⟨p1, n1, c1, p2, n2, c2, p3, n3, c3, er, x1, x2, x3⟩
theorem stR_d (l : List UInt8) (hl : l.length ≤ 10000) (w : World) :
    Calls Tryz.prog 9 #[.string (str l)] w fun e w' => ∃ row : Array Value, e = .returned (.tuple #[.agg row, .int .i64 (sE l)]) ∧ StR l w' row ∧ Below w.heap.size w w' := by
  refine (dsread_calls l (by omega) w).mono ?_
  rintro e w' ⟨row, rfl, bel, h1, h0⟩
  refine ⟨row, rfl, ⟨fun h => unhide h1 h, fun h => ?_⟩, bel⟩
  obtain ⟨v1, v2, v3, er, d1, d2, d3⟩ := unhide h0 h
  obtain ⟨p1, n1, c1, rfl, x1⟩ := DL4.form' d1
  obtain ⟨p2, n2, c2, rfl, x2⟩ := DL4.form' d2
  obtain ⟨p3, n3, c3, rfl, x3⟩ := DL4.form' d3
  exact ⟨p1, n1, c1, p2, n2, c2, p3, n3, c3, er, x1, x2, x3⟩
/-- Is a signature short? -/
def shB (n1 n2 n3 : Nat) : Bool := decide (n1 ≤ 60 ∧ n2 ≤ 60 ∧ n3 ≤ 60)
set_option maxHeartbeats 1000000 in
theorem short_calls (i : Int) (p1 p2 p3 : Option Addr) (n1 n2 n3 c1 c2 c3 : Nat) (w : World) :
    Calls Tryz.prog 5 #[.agg #[.int .i64 i, .slice p1 n1 c1, .slice p2 n2 c2, .slice p3 n3 c3]] w fun e w' => e = .returned (.bool (shB n1 n2 n3)) ∧ Below w.heap.size w w' := by
  have hb0 := (Below.refl w.heap.size w).alloc (Nat.le_refl _) (.cells #[.int .i64 i, .slice p1 n1 c1, .slice p2 n2 c2, .slice p3 n3 c3] 27)
  by_cases h1 : n1 ≤ 60
  · have d1 : decide ((n1 : Int) ≤ 60) = true := by simp; omega
    by_cases h2 : n2 ≤ 60
    · have d2 : decide ((n2 : Int) ≤ 60) = true := by simp; omega
      by_cases h3 : n3 ≤ 60
      · have d3 : decide ((n3 : Int) ≤ 60) = true := by simp; omega
        rw [show shB n1 n2 n3 = true by unfold shB; simp; omega]
        clear h1 h2 h3
        go_enter Tryz.func5, Tryz.ntmps5
        go_wp2
        go_ret
        exact ⟨rfl, hb0⟩
      · have d3 : decide ((n3 : Int) ≤ 60) = false := by simp; omega
        rw [show shB n1 n2 n3 = false by unfold shB; simp; omega]
        clear h1 h2 h3
        go_enter Tryz.func5, Tryz.ntmps5
        go_wp2
        go_ret
        exact ⟨rfl, hb0⟩
    · have d2 : decide ((n2 : Int) ≤ 60) = false := by simp; omega
      rw [show shB n1 n2 n3 = false by unfold shB; simp; omega]
      clear h1 h2
      go_enter Tryz.func5, Tryz.ntmps5
      go_wp2
      go_ret
      exact ⟨rfl, hb0⟩
  · have d1 : decide ((n1 : Int) ≤ 60) = false := by simp; omega
    rw [show shB n1 n2 n3 = false by unfold shB; simp; omega]
    clear h1
    go_enter Tryz.func5, Tryz.ntmps5
    go_wp2
    go_ret
    exact ⟨rfl, hb0⟩
end Go.Proofs.YtocibklkpnblgaaGreatDoor

namespace Go.Proofs.YtocibklkpnblgaaGreatDoor
open Go.RowKit

/-- A word turned to the left. -/
def rotl (x : BitVec 32) (s : Nat) : BitVec 32 := x <<< s ||| x >>> (32 - s)
/-- A word turned to the right. -/
def rotr (x : BitVec 32) (n : Nat) : BitVec 32 := rotl x (32 - n)
def pChoice (x y z : BitVec 32) : BitVec 32 := (x &&& y) ^^^ (~~~x &&& z)
def pMajority (x y z : BitVec 32) : BitVec 32 := ((x &&& y) ^^^ (x &&& z)) ^^^ (y &&& z)
def pBigZero (x : BitVec 32) : BitVec 32 := (rotr x 2 ^^^ rotr x 13) ^^^ rotr x 22
def pBigOne (x : BitVec 32) : BitVec 32 := (rotr x 6 ^^^ rotr x 11) ^^^ rotr x 25
def pSmallZero (x : BitVec 32) : BitVec 32 := (rotr x 7 ^^^ rotr x 18) ^^^ (x >>> 3)
def pSmallOne (x : BitVec 32) : BitVec 32 := (rotr x 17 ^^^ rotr x 19) ^^^ (x >>> 10)

set_option maxHeartbeats 400000 in
theorem rotateLeft_calls (x : BitVec 32) (k : Int) (s : Nat) (hs : bits BinOp.and IntKind.u64 (IntKind.u64.wrap k) 31 = (s:Int)) (h: s < 32) (w : World) :
    Calls Tryz.prog 99 #[.int .u32 x.toNat, .int .i64 k] w fun e w' => e = .returned (.int .u32 (rotl x s).toNat) ∧ w' = w := by
  go_enter Tryz.func99, Tryz.ntmps99
  go_wp2
  go_ret
  refine ⟨?_, rfl⟩
  show Ending.returned (.int .u32 (bits BinOp.or IntKind.u32 (↑x.toNat * 2 ^ s % 4294967296) (↑x.toNat / 2 ^ (32 - s)))) = _
  rw [b_shl, b_shr, b_or]; rfl

set_option maxHeartbeats 400000 in
theorem turn_calls (x : BitVec 32) (n : Int) (h0 : 0 < n) (h : n < 32) (w : World) :
    Calls Tryz.prog 98 #[.int .u32 x.toNat, .int .i64 n] w fun e w' => e = .returned (.int .u32 (rotr x n.toNat).toNat) ∧ w' = w := by
  obtain ⟨m, rfl⟩ := Int.eq_ofNat_of_zero_le (Int.le_of_lt h0)
  have ht := hide (b_turns m (by omega) (by omega))
  go_enter Tryz.func98, Tryz.ntmps98
  go_wp2_with (go_at_call 99; refine (rotateLeft_calls x _ (32 - m) (unhide ht) (by omega) _).mono ?_; rintro e w' ⟨rfl, rfl⟩)
  go_ret
  exact ⟨rfl, rfl⟩

set_option maxHeartbeats 400000 in
theorem choice_calls (x y z : BitVec 32) (w : World) :
    Calls Tryz.prog 92 #[.int .u32 x.toNat, .int .u32 y.toNat, .int .u32 z.toNat] w fun e w' => e = .returned (.int .u32 (pChoice x y z).toNat) ∧ w' = w := by
  go_enter Tryz.func92, Tryz.ntmps92
  go_wp2
  go_ret
  refine ⟨?_, rfl⟩
  · show Ending.returned (.int .u32 (bits BinOp.xor IntKind.u32 (bits BinOp.and IntKind.u32 ↑x.toNat ↑y.toNat) (bits BinOp.and IntKind.u32 (bits BinOp.xor IntKind.u32 IntKind.u32.max ↑x.toNat) ↑z.toNat))) = _
    rw [b_not, b_and, b_and, b_xor]; rfl

set_option maxHeartbeats 400000 in
theorem majority_calls (x y z : BitVec 32) (w : World) :
    Calls Tryz.prog 94 #[.int .u32 x.toNat, .int .u32 y.toNat, .int .u32 z.toNat] w fun e w' => e = .returned (.int .u32 (pMajority x y z).toNat) ∧ w' = w := by
  go_enter Tryz.func94, Tryz.ntmps94
  go_wp2
  go_ret
  refine ⟨?_, rfl⟩
  show Ending.returned (.int .u32 (bits BinOp.xor IntKind.u32 (bits BinOp.xor IntKind.u32 (bits BinOp.and IntKind.u32 ↑x.toNat ↑y.toNat) (bits BinOp.and IntKind.u32 ↑x.toNat ↑z.toNat)) (bits BinOp.and IntKind.u32 ↑y.toNat ↑z.toNat))) = _
  rw [b_and, b_and, b_and, b_xor, b_xor]; rfl

set_option maxHeartbeats 400000 in
theorem bigZero_calls (x : BitVec 32) (w : World) :
    Calls Tryz.prog 93 #[.int .u32 x.toNat] w fun e w' => e = .returned (.int .u32 (pBigZero x).toNat) ∧ w' = w := by
  go_enter Tryz.func93, Tryz.ntmps93
  go_wp2_with (go_at_call 98; refine (turn_calls _ _ (by omega) (by omega) _).mono ?_; rintro e w' ⟨rfl, rfl⟩)
  go_ret
  refine ⟨?_, rfl⟩
  show Ending.returned (.int .u32 (bits BinOp.xor IntKind.u32 (bits BinOp.xor IntKind.u32 ↑(rotr x 2).toNat ↑(rotr x 13).toNat) ↑(rotr x 22).toNat)) = _
  rw [b_xor, b_xor]; rfl

set_option maxHeartbeats 400000 in
theorem bigOne_calls (x : BitVec 32) (w : World) :
    Calls Tryz.prog 91 #[.int .u32 x.toNat] w fun e w' => e = .returned (.int .u32 (pBigOne x).toNat) ∧ w' = w := by
  go_enter Tryz.func91, Tryz.ntmps91
  go_wp2_with (go_at_call 98; refine (turn_calls _ _ (by omega) (by omega) _).mono ?_; rintro e w' ⟨rfl, rfl⟩)
  go_ret
  refine ⟨?_, rfl⟩
  show Ending.returned (.int .u32 (bits BinOp.xor IntKind.u32 (bits BinOp.xor IntKind.u32 ↑(rotr x 6).toNat ↑(rotr x 11).toNat) ↑(rotr x 25).toNat)) = _
  rw [b_xor, b_xor]; rfl

set_option maxHeartbeats 400000 in
theorem smallZero_calls (x : BitVec 32) (w : World) :
    Calls Tryz.prog 97 #[.int .u32 x.toNat] w fun e w' => e = .returned (.int .u32 (pSmallZero x).toNat) ∧ w' = w := by
  go_enter Tryz.func97, Tryz.ntmps97
  go_wp2_with (go_at_call 98; refine (turn_calls _ _ (by omega) (by omega) _).mono ?_; rintro e w' ⟨rfl, rfl⟩)
  go_ret
  refine ⟨?_, rfl⟩
  show Ending.returned (.int .u32 (bits BinOp.xor IntKind.u32 (bits BinOp.xor IntKind.u32 ↑(rotr x 7).toNat ↑(rotr x 18).toNat) ((x.toNat : Int) / 8))) = _
  rw [show (x.toNat : Int) / (8 : Int) = ((x >>> 3).toNat : Int) from b_shr x 3]
  rw [b_xor, b_xor]; rfl

set_option maxHeartbeats 400000 in
theorem smallOne_calls (x : BitVec 32) (w : World) :
    Calls Tryz.prog 96 #[.int .u32 x.toNat] w fun e w' => e = .returned (.int .u32 (pSmallOne x).toNat) ∧ w' = w := by
  go_enter Tryz.func96, Tryz.ntmps96
  go_wp2_with (go_at_call 98; refine (turn_calls _ _ (by omega) (by omega) _).mono ?_; rintro e w' ⟨rfl, rfl⟩)
  go_ret
  refine ⟨?_, rfl⟩
  show Ending.returned (.int .u32 (bits BinOp.xor IntKind.u32 (bits BinOp.xor IntKind.u32 ↑(rotr x 17).toNat ↑(rotr x 19).toNat) ((x.toNat : Int) / 1024))) = _
  rw [show (x.toNat : Int) / (1024 : Int) = ((x >>> 10).toNat : Int) from b_shr x 10]
  rw [b_xor, b_xor]; rfl

end Go.Proofs.YtocibklkpnblgaaGreatDoor

namespace Go.Proofs.YtocibklkpnblgaaGreatDoor
open Go.RowKit

/-- Four bytes as a word, the highest first. -/
def word (a b c d : UInt8) : BitVec 32 := BitVec.ofNat 32 (a.toNat * 16777216 + b.toNat * 65536 + c.toNat * 256 + d.toNat)
/-- The word at a place of a text. -/
def wAt (l : List UInt8) (k : Nat) : BitVec 32 := word (l.getD k 0) (l.getD (k + 1) 0) (l.getD (k + 2) 0) (l.getD (k + 3) 0)
def sched16 (l : List UInt8) (n : Nat) : List (BitVec 32) := (List.range n).map fun i => wAt l (4 * i)
def schedNext (ws : List (BitVec 32)) : BitVec 32 := addw (addw (addw (pSmallOne (ws.getD (ws.length - 2) 0)) (ws.getD (ws.length - 7) 0)) (pSmallZero (ws.getD (ws.length - 15) 0))) (ws.getD (ws.length - 16) 0)
def schedN (l : List UInt8) : Nat → List (BitVec 32)
  | 0 => sched16 l 16
  | k + 1 => schedN l k ++ [schedNext (schedN l k)]
def sched (l : List UInt8) : List (BitVec 32) := schedN l 48

theorem sched16_length (l : List UInt8) (n : Nat) : (sched16 l n).length = n := by simp [sched16]
theorem schedN_length (l : List UInt8) (k : Nat) : (schedN l k).length = 16 + k := by
  induction k with
  | zero => simp [schedN, sched16]
  | succ k ih => simp [schedN, ih]; omega
theorem sched_length (l : List UInt8) : (sched l).length = 64 := schedN_length l 48
theorem sched16_succ (l : List UInt8) (n : Nat) : sched16 l (n + 1) = sched16 l n ++ [wAt l (4 * n)] := by simp [sched16, List.range_succ]

/-- Words as cells of memory. -/
def wc (ws : List (BitVec 32)) : Array Value := (ws.map fun x => Value.int .u32 (x.toNat : Int)).toArray
@[simp] theorem wc_size (ws : List (BitVec 32)) : (wc ws).size = ws.length := by simp [wc]
theorem wc_at (ws : List (BitVec 32)) (j : Nat) (h : j < ws.length) : (wc ws)[j]? = some (.int .u32 ((ws.getD j 0).toNat : Int)) := by
  simp [wc, h]
theorem wc_set (ws zs : List (BitVec 32)) (z x : BitVec 32) (i : Nat) (hi : i = ws.length) : (wc (ws ++ z :: zs)).setIfInBounds i (.int .u32 (x.toNat : Int)) = wc (ws ++ [x] ++ zs) := by
  subst hi
  simp only [wc, List.map_append, List.map_cons, List.setIfInBounds_toArray, List.append_assoc, List.cons_append, List.nil_append]
  congr 1
  rw [List.set_append_right _ _ (by simp)]
  simp
theorem wc_oneCell (ws : List (BitVec 32)) : (wc ws).all (·.oneCell') = true := by
  simp [wc, Value.oneCell']

theorem word_lt (a b c d : UInt8) : a.toNat * 16777216 + b.toNat * 65536 + c.toNat * 256 + d.toNat < 4294967296 := by
  have := a.toNat_lt; have := b.toNat_lt; have := c.toNat_lt; have := d.toNat_lt; omega
theorem word_toNat (a b c d : UInt8) : (word a b c d).toNat = a.toNat * 16777216 + b.toNat * 65536 + c.toNat * 256 + d.toNat := by
  have := word_lt a b c d
  simp only [word, BitVec.toNat_ofNat]; omega
/-- The word as the code's shifts and ors lay it. -/
theorem word_or (a b c d : UInt8) : bits BinOp.or IntKind.u32 (bits BinOp.or IntKind.u32 (bits BinOp.or IntKind.u32 ((a.toNat : Int) % 4294967296 * 16777216 % 4294967296) ((b.toNat : Int) % 4294967296 * 65536 % 4294967296)) ((c.toNat : Int) % 4294967296 * 256 % 4294967296)) ((d.toNat : Int) % 4294967296) = ((word a b c d).toNat : Int) := by
  have ha := a.toNat_lt; have hb := b.toNat_lt; have hc := c.toNat_lt; have hd := d.toNat_lt
  have e1 : (a.toNat : Int) % 4294967296 * 16777216 % 4294967296 = ((a.toNat * 16777216 : Nat) : Int) := by omega
  have e2 : (b.toNat : Int) % 4294967296 * 65536 % 4294967296 = ((b.toNat * 65536 : Nat) : Int) := by omega
  have e3 : (c.toNat : Int) % 4294967296 * 256 % 4294967296 = ((c.toNat * 256 : Nat) : Int) := by omega
  have e4 : (d.toNat : Int) % 4294967296 = ((d.toNat : Nat) : Int) := by omega
  have j1 : a.toNat * 16777216 ||| b.toNat * 65536 = a.toNat * 16777216 + b.toNat * 65536 := nat_join 24 _ _ (by omega) (by omega)
  have j2 : a.toNat * 16777216 + b.toNat * 65536 ||| c.toNat * 256 = a.toNat * 16777216 + b.toNat * 65536 + c.toNat * 256 := nat_join 16 _ _ (by omega) (by omega)
  have j3 : a.toNat * 16777216 + b.toNat * 65536 + c.toNat * 256 ||| d.toNat = a.toNat * 16777216 + b.toNat * 65536 + c.toNat * 256 + d.toNat := nat_join 8 _ _ (by omega) (by omega)
  rw [e1, e2, e3, e4, u32_or_nat _ _ (by omega) (by omega), j1, u32_or_nat _ _ (by omega) (by omega), j2, u32_or_nat _ _ (by omega) (by omega), j3, word_toNat]

end Go.Proofs.YtocibklkpnblgaaGreatDoor
