/-
  WHAT keys' Climb RETURNS, where there is no log.
-/
/-
  == OF A DIGEST WITH ITSELF.
-/
/-
  WHAT keys' Verify RETURNS of a signer's own signature, and of an empty one, where there is no log.
-/
/-
  WHAT keys' Verify RETURNS of a signer's own signature and any digest, where there is no log.
-/
/-
  SUMS WORKED OUT BY THE KERNEL: the standard's blocks over numbers, each value worked out as it is made; that they are the sums of ShaEnd. Plain.
-/
/-
  KEYS WORKED OUT BY THE KERNEL: secrets, publics, words, nodes as sums over numbers. Plain.
-/
/-
  THE WORDS OF THE SEED 7's KEYS 0 TO 3, worked out by the kernel.
-/
/-
  THE WORDS OF THE SEED 7's KEYS 4 TO 7, worked out by the kernel.
-/
/-
  THE WORDS OF THE SEED 7's KEYS 8 TO 11, worked out by the kernel.
-/
/-
  THE WORDS OF THE SEED 7's KEYS 12 TO 15, worked out by the kernel.
-/
/-
  THE ROOT OF THE SEED 7's KEYS; what is signed of the digest 1 isn't verified of the digest 2.
-/
/-
  THE LAYER's awake, OF KEYS: a signature is verified of its digest, and isn't of another.
-/
import Derived.Test.YtjoefhdclghgaaaDoorJ3
import Derived.Test.YtjoefhdclghgaaaDoorJ2
import Derived.Test.YtjoefhdclghgaaaDoorJ0
import Derived.Test.YtjoefhdclghgaaaDoorJ1
namespace Go.Proofs.YtjoefhdclghgaaaDoor
open Go Go.RowKit
set_option linter.unusedSimpArgs false
set_option linter.unusedVariables false

theorem kand_one (M : Nat) (h : M < 9223372036854775808) : bits .and .i64 (M : Int) 1 = ((M % 2 : Nat) : Int) := by
  have h1 : (BitVec.ofInt 64 (M : Int)).toNat = M := by
    rw [BitVec.ofInt_natCast, BitVec.toNat_ofNat]; exact Nat.mod_eq_of_lt (by omega)
  have h2 : (BitVec.ofInt 64 (1 : Int)).toNat = 1 := by decide
  show IntKind.i64.wrap ((BitVec.ofInt 64 (M : Int) &&& BitVec.ofInt 64 (1 : Int)).toNat : Int) = _
  rw [BitVec.toNat_and, h1, h2, Nat.and_one_is_mod, IntKind.wrap_i64]
  omega
set_option maxHeartbeats 4000000 in
set_option maxRecDepth 100000 in
theorem kclimb_calls (leaf : List UInt8) (hl : leaf.length = 32) (x : Nat) (hx : x < 4294967296) (ds : List (List UInt8)) (p : Option Addr) (cap : Nat) (hlen : ds.length ≤ 60) (w : World) (hD : DL w p ds) (tabs : Tabs w) :
    Calls Tryd.prog 26 #[.pointer none, .agg (bc leaf), .int .i64 (x : Int), .slice p ds.length cap] w fun e w' => e = .returned (.agg (bc (kClimb leaf x ds ds.length))) ∧ Below w.heap.size w w' := by
  have A3 := hide (al3 w (.cells (bc leaf) 23) (.cells (bc (List.replicate 32 0)) 23) (.cells (bc (List.replicate 32 0)) 23))
  have B3 := hide (bel3 w (.cells (bc leaf) 23) (.cells (bc (List.replicate 32 0)) 23) (.cells (bc (List.replicate 32 0)) 23))
  have hil := digInfo leaf hl
  have hzl := zeroSize leaf hl
  have hol := bc_oneCell leaf
  have HD := hide hD
  have HT := hide tabs
  have HL := hide (kClimb_length leaf x ds hl)
  have Hx := hide hx
  have Hlen := hide hlen
  clear tabs hD hx hlen
  go_enter Tryd.func26, Tryd.ntmps26
  go_wp2_with (first
    | refine wpList_load_row rfl 23 (.tmp 5) rfl w.heap.size rfl 23 _ (0, 0) _ (al2 w (.cells (bc leaf) 23) (.cells (bc (List.replicate 32 0)) 23)).1 Tryd.underlying23 rfl hil ?_
    | refine wpList_store_row rfl 23 (.tmp 9) (.tmp 12) rfl (w.heap.size + 1 + 1) _ rfl rfl 23 _ (unhide A3).2.2 hil hzl hol ?_)
  obtain ⟨N, hN⟩ : ∃ N, w.heap.size = N := ⟨_, rfl⟩
  have HN := hide hN
  go_loopw [15] (fun i wr => ∃ k : Nat, k ≤ ds.length ∧ i = .int .i64 (k : Int) ∧ Below N w wr ∧ wr.heap[N + 1]? = some (.cells (bc (List.replicate 32 0)) 23 (0, 0)) ∧ wr.heap[N + 1 + 1]? = some (.cells (bc (kClimb leaf x ds k)) 23 (0, 0))) (fun i _ => ds.length - (intOf i).toNat)
  case atStart =>
    subst hN
    refine ⟨0, by omega, rfl, below_setRow (unhide B3) (by omega) _, ?_, ?_⟩
    · exact (setRow_other _ _ _ _ (by omega)).trans (unhide A3).2.1
    · exact setRow_heap _ _ _ _ _ _ (unhide A3).2.2
  case round =>
    obtain ⟨k, hk, rfl, hb, q1, q2⟩ := hrel
    rw [hN]
    clear A3 B3
    by_cases hlt : k < ds.length
    · have hd : decide (k < ds.length) = true := by simpa using hlt
      have hDk := unhide HD
      obtain ⟨b, off, rfl, hlt2, hc⟩ := hDk.2 (by intro h; rw [h] at hlt; simp at hlt)
      have hEl := hDk.len k hlt
      have hr := rangeAt_below (hc k hlt) hb (by rw [← hN]; exact hlt2)
      have hTl := unhide HL k
      have hT2l := unhide HL (k + 1)
      have hT2e : kClimb leaf x ds (k + 1) = if x / 2 ^ k % 2 = 1 then pOf 4 [ds.getD k [], kClimb leaf x ds k] else pOf 4 [kClimb leaf x ds k, ds.getD k []] := rfl
      obtain ⟨E, hE⟩ : ∃ E, ds.getD k [] = E := ⟨_, rfl⟩
      rw [hE] at hEl hr hT2e
      obtain ⟨T1, hT1⟩ : ∃ T, kClimb leaf x ds k = T := ⟨_, rfl⟩
      rw [hT1] at hTl q2 hT2e
      obtain ⟨T2, hT2⟩ : ∃ T, kClimb leaf x ds (k + 1) = T := ⟨_, rfl⟩
      rw [hT2] at hT2e hT2l
      obtain ⟨B, hB⟩ : ∃ B, x / 2 ^ k = B := ⟨_, rfl⟩
      have hBl : B < 9223372036854775808 := by rw [← hB]; exact Nat.lt_of_le_of_lt (Nat.div_le_self _ _) (by have := unhide Hx; omega)
      have fB : (x : Int) / 2 ^ k = (B : Int) := by rw [← hB]; push_cast; rfl
      have fA := kand_one B hBl
      rw [hB] at hT2e
      have hk60 : k ≤ 60 := by have := unhide Hlen; omega
      have hiT := digInfo _ hTl
      have hiE := digInfo _ hEl
      have hi2 := digInfo _ hT2l
      have ho2 := bc_oneCell T2
      have hz2 : (bc T1).size = (bc T2).size := by rw [bc_size, bc_size, hTl, hT2l]
      have hzE := zeroSize E hEl
      have b1 : (0 : Int) ≤ k ∧ (k : Int) < ds.length := by omega
      have HR := hide hr
      have HEl := hide hEl
      have HTl := hide hTl
      have HT2 := hide hT2
      have HT2e := hide hT2e
      have Q1 := hide q1
      have Q2 := hide q2
      have HB := hide hb
      have Hk := hide hlt
      clear q1 q2 hb hlt hT2 hT2e hE hT1 hr hc hlt2 hB hEl hTl hT2l hDk hBl
      by_cases hbit : B % 2 = 1
      · have e1 := unhide HT2e
        rw [if_pos hbit] at e1
        have kN : Hid (∀ W, Tabs W → Calls Tryd.prog 32 #[.pointer none, .int .u8 4, .agg (bc E), .agg (bc T1)] W fun e w'' => e = .returned (.agg (bc T2)) ∧ Below W.heap.size W w'') := hide fun W tW => by
          rw [e1]; exact twoD_calls 4 (by decide) E T1 (unhide HEl) (unhide HTl) W tW
        rw [hbit] at fA
        clear e1 HT2e hbit
        go_wp2_with (first
          | (refine wpList_load_mid rfl 23 (.tmp 18) rfl b (off + k * 32) rfl (Lib.byteCells E) _ (unhide HR) Tryd.underlying23 rfl (by rw [Lib.byteCells_length, unhide HEl]; kernel_rfl) ?_)
          | (refine wpList_store_new rfl 23 (.tmp 11) (.tmp 19) rfl wr _ _ E rfl rfl hiE hzE ?_; intro w2 q3 b2 z2; have r2 := Below.at b2 (Array.getElem?_eq_some_iff.1 (unhide Q2)).1 (unhide Q2))
          | (refine wpList_load_row rfl 23 (.tmp 11) rfl wr.heap.size rfl 23 _ (0, 0) _ q3 Tryd.underlying23 rfl hiE ?_)
          | (refine wpList_load_row rfl 23 (.tmp 9) rfl (N + 1 + 1) rfl 23 _ (0, 0) _ r2 Tryd.underlying23 rfl hiT ?_))
        have bb2 : Below N w w2 := (unhide HB).trans (b2.mono (by have := (unhide HB).size; rw [← hN]; exact this))
        refine (unhide kN _ ((unhide HT).below bb2 (by rw [← hN]; exact Nat.le_refl _))).mono ?_
        rintro e w3 ⟨rfl, b3⟩
        have r1 := Below.at b2 (Array.getElem?_eq_some_iff.1 (unhide Q1)).1 (unhide Q1)
        have s1 := Below.at b3 (Array.getElem?_eq_some_iff.1 r1).1 r1
        have s2 := Below.at b3 (Array.getElem?_eq_some_iff.1 r2).1 r2
        have bb3 : Below N w w3 := bb2.trans (b3.mono (by have := bb2.size; rw [← hN]; exact this))
        clear b2 b3 r1 r2 z2 q3
        go_wp2_with (refine wpList_store_row rfl 23 (.tmp 9) (.tmp 28) rfl (N + 1 + 1) _ rfl rfl 23 _ s2 hi2 hz2 ho2 ?_)
        refine ⟨⟨k + 1, by have := unhide Hk; omega, by go_num, below_setRow bb3 (by omega) _, ?_, ?_⟩, by have := unhide Hk; simp [intOf]; omega⟩
        · rw [setRow_other _ _ _ _ (by omega)]; exact s1
        · rw [unhide HT2]; exact setRow_heap _ _ _ _ _ _ s2
      · have e1 := unhide HT2e
        rw [if_neg hbit] at e1
        have kN : Hid (∀ W, Tabs W → Calls Tryd.prog 32 #[.pointer none, .int .u8 4, .agg (bc T1), .agg (bc E)] W fun e w'' => e = .returned (.agg (bc T2)) ∧ Below W.heap.size W w'') := hide fun W tW => by
          rw [e1]; exact twoD_calls 4 (by decide) T1 E (unhide HTl) (unhide HEl) W tW
        rw [show B % 2 = 0 by omega] at fA
        clear e1 HT2e hbit
        go_wp2_with (first
          | (refine wpList_load_mid rfl 23 (.tmp 18) rfl b (off + k * 32) rfl (Lib.byteCells E) _ (unhide HR) Tryd.underlying23 rfl (by rw [Lib.byteCells_length, unhide HEl]; kernel_rfl) ?_)
          | (refine wpList_store_new rfl 23 (.tmp 11) (.tmp 19) rfl wr _ _ E rfl rfl hiE hzE ?_; intro w2 q3 b2 z2; have r2 := Below.at b2 (Array.getElem?_eq_some_iff.1 (unhide Q2)).1 (unhide Q2))
          | (refine wpList_load_row rfl 23 (.tmp 11) rfl wr.heap.size rfl 23 _ (0, 0) _ q3 Tryd.underlying23 rfl hiE ?_)
          | (refine wpList_load_row rfl 23 (.tmp 9) rfl (N + 1 + 1) rfl 23 _ (0, 0) _ r2 Tryd.underlying23 rfl hiT ?_))
        have bb2 : Below N w w2 := (unhide HB).trans (b2.mono (by have := (unhide HB).size; rw [← hN]; exact this))
        refine (unhide kN _ ((unhide HT).below bb2 (by rw [← hN]; exact Nat.le_refl _))).mono ?_
        rintro e w3 ⟨rfl, b3⟩
        have r1 := Below.at b2 (Array.getElem?_eq_some_iff.1 (unhide Q1)).1 (unhide Q1)
        have s1 := Below.at b3 (Array.getElem?_eq_some_iff.1 r1).1 r1
        have s2 := Below.at b3 (Array.getElem?_eq_some_iff.1 r2).1 r2
        have bb3 : Below N w w3 := bb2.trans (b3.mono (by have := bb2.size; rw [← hN]; exact this))
        clear b2 b3 r1 r2 z2 q3
        go_wp2_with (refine wpList_store_row rfl 23 (.tmp 9) (.tmp 32) rfl (N + 1 + 1) _ rfl rfl 23 _ s2 hi2 hz2 ho2 ?_)
        refine ⟨⟨k + 1, by have := unhide Hk; omega, by go_num, below_setRow bb3 (by omega) _, ?_, ?_⟩, by have := unhide Hk; simp [intOf]; omega⟩
        · rw [setRow_other _ _ _ _ (by omega)]; exact s1
        · rw [unhide HT2]; exact setRow_heap _ _ _ _ _ _ s2
    · have hd : decide (k < ds.length) = false := by simpa using hlt
      have hkl : k = ds.length := by omega
      have hM1 := unhide HL ds.length
      have hi := digInfo _ hM1
      have hz := zeroSize _ hM1
      have ho := bc_oneCell (kClimb leaf x ds ds.length)
      rw [hkl] at q2
      have Q1 := hide q1
      have Q2 := hide q2
      have HB := hide hb
      clear q1 q2 hb hkl hlt hM1
      go_wp2_with (first
        | refine wpList_load_row rfl 23 (.tmp 9) rfl (N + 1 + 1) rfl 23 _ (0, 0) _ (unhide Q2) Tryd.underlying23 rfl hi ?_
        | refine wpList_store_row rfl 23 (.tmp 8) (.tmp 34) rfl (N + 1) _ rfl rfl 23 _ (unhide Q1) hi hz ho ?_)
      exact bodyPost_ret (results_cell_row rfl _ _ (N + 1) _ _ _ _ rfl (setRow_heap _ _ _ _ _ _ (unhide Q1)) Tryd.underlying23 rfl hi) rfl ⟨rfl, by rw [unhide HN]; exact below_setRow (unhide HB) (by omega) _⟩
end Go.Proofs.YtjoefhdclghgaaaDoor

namespace Go.Proofs.YtjoefhdclghgaaaDoor
open Go.RowKit
set_option linter.unusedSimpArgs false
set_option linter.unusedVariables false

theorem dig_self (d : List UInt8) (hd : d.length = 32) (w : World) : (binOp .eql 23 (.agg (bc d)) (.agg (bc d))).run Tryd.prog w = .ok (.bool true) w := by
  obtain ⟨la, hla⟩ := keyLits_ints (P := Tryd.prog) 23 5 32 .u8 Tryd.underlying23 Tryd.underlying5 (by kernel_rfl) (by kernel_rfl) (d.map fun b => (b.toNat : Int)) (by simpa using hd) (fun z hz => by
    obtain ⟨b, _, rfl⟩ := List.mem_map.1 hz
    have := b.toNat_lt
    simp [Lit.wf, IntKind.min, IntKind.max, IntKind.signed, IntKind.bits]; omega)
  refine eql_refl 23 2 2 (by omega) (by kernel_rfl) _ ?_ la ?_ w
  · simp only [Value.formed, Tryd.underlying23, bc_size, hd]; kernel_rfl
  · rw [← hla]; simp [bc, Lib.byteCells]; rfl
end Go.Proofs.YtjoefhdclghgaaaDoor

namespace Go.Proofs.YtjoefhdclghgaaaDoor
open Go Go.RowKit
set_option linter.unusedSimpArgs false
set_option linter.unusedVariables false

theorem verify_empty (root d : Array Value) (w : World) :
    Calls Tryd.prog 11 #[.pointer none, .agg root, .agg d, .agg sigZ] w fun e w' => e = .returned (.bool false) ∧ Below w.heap.size w w' := by
  have hb := bel3 w (.cells root 23) (.cells d 23) (.cells sigZ 31)
  have hk := hide fun W => isKey_calls 0 W
  unfold sigZ at *
  go_enter Tryd.func11, Tryd.ntmps11
  go_wp2_with fail
  refine (unhide hk _).mono ?_
  rintro e w1 ⟨rfl, rfl⟩
  go_wp2
  go_ret
  exact ⟨rfl, hb⟩
theorem path_dl {w : World} {ds : List (List UInt8)} (hds : ds.length = 16) (h : ∀ d ∈ ds, d.length = 32) (x : Nat) (hx : x < 16) (gp : Nat) (t : TypeId) (hg : w.heap[gp]? = some (.cells (bc (pathB ds x 4)) t (0, 0))) : DL w (some ⟨gp, 0, none⟩) (kPath ds x) := by
  refine DL_of_cells (fun d hd => ?_) hg ?_
  · obtain ⟨i, hi, rfl⟩ := List.mem_map.1 hd
    exact pathAt_length ds hds h x hx i (List.mem_range.1 hi)
  · have e : (kPath ds x).flatten = pathB ds x 4 := by unfold kPath pathB; rw [List.flatMap_def]
    have hl := pathB_length ds hds h x hx 4 (Nat.le_refl _)
    rw [e, kPath_length, List.take_of_length_le (by simp [bc_size, hl])]
    simp [bc]
set_option maxHeartbeats 4000000 in
set_option maxRecDepth 100000 in
theorem verify_true (seed d : List UInt8) (hs : seed.length = 32) (hd : d.length = 32) (ds : List (List UInt8)) (hds : ds.length = 16) (h32 : ∀ d ∈ ds, d.length = 32) (x : Nat) (hx : x < 16) (hw : ds.getD x [] = pWord seed x) (B : Nat) (cs : Array Value) (w : World) (hS : SigAt w B seed d ds x cs) (tabs : Tabs w) :
    Calls Tryd.prog 11 #[.pointer none, .agg (bc (kRoot ds)), .agg (bc d), .agg cs] w fun e w' => e = .returned (.bool true) ∧ Below w.heap.size w w' := by
  obtain ⟨g, gp, _, _, rfl, s1, s2, s3⟩ := hS.ex
  have hRl := kRoot_length ds hds
  have hiR := digInfo _ hRl
  have hid := digInfo d hd
  have hk := hide fun W => isKey_calls (x : Int) W
  have hkk : (if (0 : Int) ≤ (x : Int) then decide ((x : Int) < 16) else false) = true := by rw [if_pos (by omega)]; simp; omega
  rw [hkk] at hk
  have hPl := pParts_length seed x d 32
  have hOl := pOthers_length seed x d 32
  have co := hide fun W h1 h2 b1 b2 t => opened_calls d hd (pParts seed x d 32) (pOthers seed x d 32) hPl hOl g 0 32 (g + 1) 0 32 W h1 h2 b1 b2 t
  rw [open_word] at co
  have hWl := pWord_length seed x
  have hiW := digInfo _ hWl
  have hzW := zeroSize _ hWl
  have cc := hide fun W hD t => kclimb_calls (pWord seed x) hWl x (by omega) (kPath ds x) (some ⟨gp, 0, none⟩) 4 (by rw [kPath_length]; omega) W hD t
  rw [kPath_length, ← hw, kClimb_root ds hds x hx, hw] at cc
  have heq := hide fun W => dig_self (kRoot ds) hRl W
  have hpd := hide fun (W : World) hg => path_dl (w := W) hds h32 x hx gp 23 hg
  clear hw hS
  generalize kRoot ds = R at *
  generalize pWord seed x = WD at *
  obtain ⟨q0, q1, q2⟩ := al3 w (.cells (bc R) 23) (.cells (bc d) 23) (.cells #[.int .i64 (x : Int), .slice (some ⟨g, 0, none⟩) 32 32, .slice (some ⟨g + 1, 0, none⟩) 32 32, .slice (some ⟨gp, 0, none⟩) 4 4] 31)
  have hb := bel3 w (.cells (bc R) 23) (.cells (bc d) 23) (.cells #[.int .i64 (x : Int), .slice (some ⟨g, 0, none⟩) 32 32, .slice (some ⟨g + 1, 0, none⟩) 32 32, .slice (some ⟨gp, 0, none⟩) 4 4] 31)
  have u1 := hide (Below.at hb (Array.getElem?_eq_some_iff.1 s1).1 s1)
  have u2 := hide (Below.at hb (Array.getElem?_eq_some_iff.1 s2).1 s2)
  have u3 := hide (Below.at hb (Array.getElem?_eq_some_iff.1 s3).1 s3)
  have HT := hide (tabs.below hb (Nat.le_refl _))
  clear hkk hRl s1 s2 s3 tabs hPl hOl h32 hds
  obtain ⟨X, hX⟩ : ∃ X, ((w.alloc (.cells (bc R) 23)).alloc (.cells (bc d) 23)).alloc (.cells #[.int .i64 (x : Int), .slice (some ⟨g, 0, none⟩) 32 32, .slice (some ⟨g + 1, 0, none⟩) 32 32, .slice (some ⟨gp, 0, none⟩) 4 4] 31) = X := ⟨_, rfl⟩
  rw [hX] at q0 q1 q2 hb u1 u2 u3 HT
  have HX := hide hX
  have zX := (Array.getElem?_eq_some_iff.1 q2).1
  have c0 : X.cell? ⟨w.heap.size + 1 + 1, 0, none⟩ = some (.int .i64 (x : Int)) := cell_of_row _ _ _ _ _ _ q2
  have c1 : X.cell? ⟨w.heap.size + 1 + 1, 1, none⟩ = some (.slice (some ⟨g, 0, none⟩) 32 32) := cell_of_row _ _ _ _ _ _ q2
  have c2 : X.cell? ⟨w.heap.size + 1 + 1, 2, none⟩ = some (.slice (some ⟨g + 1, 0, none⟩) 32 32) := cell_of_row _ _ _ _ _ _ q2
  have c3 : X.cell? ⟨w.heap.size + 1 + 1, 3, none⟩ = some (.slice (some ⟨gp, 0, none⟩) 4 4) := cell_of_row _ _ _ _ _ _ q2
  clear hX
  go_enter Tryd.func11, Tryd.ntmps11
  go_wp2_with (rw [unhide HX])
  refine (unhide hk _).mono ?_
  rintro e w1 ⟨rfl, h1⟩
  rw [h1]
  clear h1
  go_wp2_with (refine wpList_load_row rfl 23 (.tmp 6) rfl (w.heap.size + 1) rfl 23 _ (0, 0) _ q1 Tryd.underlying23 rfl hid ?_)
  refine (unhide co _ (Array.getElem?_eq_some_iff.1 (unhide u1)).1 (Array.getElem?_eq_some_iff.1 (unhide u2)).1 (bytes_of_row (unhide u1)) (bytes_of_row (unhide u2)) (unhide HT)).mono ?_
  rintro e w2 ⟨rfl, b2⟩
  have z2 := b2.size
  have bW2 : Below w.heap.size w w2 := hb.trans (b2.mono hb.size)
  go_wp2_with (refine wpList_store_new rfl 23 (.tmp 9) (.tmp 29) rfl w2 _ _ WD rfl rfl hiW hzW ?_; intro w3 q9 b3 z3)
  have b13 : Below X.heap.size X w3 := b2.trans (b3.mono z2)
  have bW3 : Below w.heap.size w w3 := bW2.trans (b3.mono bW2.size)
  have p0 := Below.at b13 (Array.getElem?_eq_some_iff.1 q0).1 q0
  have p2 := Below.at b13 zX q2
  have p3 := Below.at b13 (Array.getElem?_eq_some_iff.1 (unhide u3)).1 (unhide u3)
  have t3 := (unhide HT).below b13 (Nat.le_refl _)
  have zp2 := (Array.getElem?_eq_some_iff.1 p2).1
  obtain ⟨K, hK⟩ : ∃ K, w2.heap.size = K := ⟨_, rfl⟩
  rw [hK] at q9
  rw [hK]
  have R0 : Hid (∀ w', (∃ p : Regrown, w' = Sort.grow (redrawn w3 p.d) p.os) → w'.heap[w.heap.size]? = some (.cells (bc R) 23 (0, 0))) := fun w' ⟨p, hp⟩ => by rw [hp]; exact Below.at (below_regrown w3 p.d p.os) (Array.getElem?_eq_some_iff.1 p0).1 p0
  have R9 : Hid (∀ w', (∃ p : Regrown, w' = Sort.grow (redrawn w3 p.d) p.os) → w'.heap[K]? = some (.cells (bc WD) 23 (0, 0))) := fun w' ⟨p, hp⟩ => by rw [hp]; exact Below.at (below_regrown w3 p.d p.os) (Array.getElem?_eq_some_iff.1 q9).1 q9
  have d0 : ∀ d os, (Sort.grow (redrawn w3 d) os).cell? ⟨w.heap.size + 1 + 1, 0, none⟩ = some (.int .i64 (x : Int)) := fun d os => by
    rw [(below_regrown w3 d os).cell (p := ⟨w.heap.size + 1 + 1, 0, none⟩) zp2]; exact cell_of_row _ _ _ _ _ _ p2
  have d3 : ∀ d os, (Sort.grow (redrawn w3 d) os).cell? ⟨w.heap.size + 1 + 1, 3, none⟩ = some (.slice (some ⟨gp, 0, none⟩) 4 4) := fun d os => by
    rw [(below_regrown w3 d os).cell (p := ⟨w.heap.size + 1 + 1, 3, none⟩) zp2]; exact cell_of_row _ _ _ _ _ _ p2
  have kC := hide fun d os => Calls.regrown_of (w := w3) (d := d) (os := os) (unhide cc _ (unhide hpd _ (Below.at (below_regrown w3 d os) (Array.getElem?_eq_some_iff.1 p3).1 p3)) (t3.below (below_regrown w3 d os) (Nat.le_refl _)))
  clear c0 c1 c2 c3 q0 q1 q2 q9 p0 p2 p3 t3 b2 b3 b13 z2 z3 hK zp2 zX bW2
  go_wp2_with fail
  refine wp_region_below mixed (by kernel_rfl) ?_
  quiet_step (fail)
  quiet_step (fail)
  quiet_step (fail)
  refine wpQuiet_load_row rfl 23 (.tmp 9) rfl K rfl 23 _ (0, 0) _ (unhide R9) Tryd.underlying23 rfl hiW ?_
  quiet_step (fail)
  quiet_step (fail)
  quiet_step (fail)
  quiet_step (fail)
  quiet_step (exact unhide kC _ _)
  refine wpQuiet_load_row rfl 23 (.tmp 5) rfl w.heap.size rfl 23 _ (0, 0) _ (unhide R0) Tryd.underlying23 rfl hiR ?_
  refine wpQuiet_eql rfl 23 23 (.tmp 39) (.tmp 40) rfl _ _ rfl rfl (by kernel_rfl) true (unhide heq) ?_
  quiet_step (fail)
  repeat (quiet_step (fail))
  refine wpQuiet_nil ?_
  intro w4 b4
  go_wp2
  go_ret
  exact ⟨rfl, bW3.trans (b4.mono bW3.size)⟩
end Go.Proofs.YtjoefhdclghgaaaDoor

namespace Go.Proofs.YtjoefhdclghgaaaDoor
open Go Go.RowKit
set_option linter.unusedSimpArgs false
set_option linter.unusedVariables false

set_option maxHeartbeats 4000000 in
set_option maxRecDepth 100000 in
theorem verify_at (seed d : List UInt8) (hs : seed.length = 32) (hd : d.length = 32) (e : List UInt8) (he : e.length = 32) (ds : List (List UInt8)) (hds : ds.length = 16) (h32 : ∀ d ∈ ds, d.length = 32) (x : Nat) (hx : x < 16) (B : Nat) (cs : Array Value) (w : World) (hS : SigAt w B seed d ds x cs) (tabs : Tabs w) :
    Calls Tryd.prog 11 #[.pointer none, .agg (bc (kRoot ds)), .agg (bc e), .agg cs] w fun en w' => en = .returned (.bool (decide (kClimb (pWordOf (pOpen e (pParts seed x d 32) (pOthers seed x d 32) 32)) x (kPath ds x) 4 = kRoot ds))) ∧ Below w.heap.size w w' := by
  obtain ⟨g, gp, _, _, rfl, s1, s2, s3⟩ := hS.ex
  have hRl := kRoot_length ds hds
  have hiR := digInfo _ hRl
  have hid := digInfo e he
  have hk := hide fun W => isKey_calls (x : Int) W
  have hkk : (if (0 : Int) ≤ (x : Int) then decide ((x : Int) < 16) else false) = true := by rw [if_pos (by omega)]; simp; omega
  rw [hkk] at hk
  have hPl := pParts_length seed x d 32
  have hOl := pOthers_length seed x d 32
  have co := hide fun W h1 h2 b1 b2 t => opened_calls e he (pParts seed x d 32) (pOthers seed x d 32) hPl hOl g 0 32 (g + 1) 0 32 W h1 h2 b1 b2 t
  have hWl : (pWordOf (pOpen e (pParts seed x d 32) (pOthers seed x d 32) 32)).length = 32 := pOf_length _ _
  have hiW := digInfo _ hWl
  have hzW := zeroSize _ hWl
  have cc := hide fun W hD t => kclimb_calls (pWordOf (pOpen e (pParts seed x d 32) (pOthers seed x d 32) 32)) hWl x (by omega) (kPath ds x) (some ⟨gp, 0, none⟩) 4 (by rw [kPath_length]; omega) W hD t
  rw [kPath_length] at cc
  have hTl := kClimb_length (pWordOf (pOpen e (pParts seed x d 32) (pOthers seed x d 32) 32)) x (kPath ds x) hWl 4
  have heq := hide fun W => dig_eq (kClimb (pWordOf (pOpen e (pParts seed x d 32) (pOthers seed x d 32) 32)) x (kPath ds x) 4) (kRoot ds) hTl hRl W
  have hpd := hide fun (W : World) hg => path_dl (w := W) hds h32 x hx gp 23 hg
  clear hS
  obtain ⟨ans, hans⟩ : ∃ ans, decide (kClimb (pWordOf (pOpen e (pParts seed x d 32) (pOthers seed x d 32) 32)) x (kPath ds x) 4 = kRoot ds) = ans := ⟨_, rfl⟩
  rw [hans] at heq ⊢
  generalize kClimb (pWordOf (pOpen e (pParts seed x d 32) (pOthers seed x d 32) 32)) x (kPath ds x) 4 = TD at *
  generalize kRoot ds = R at *
  generalize pWordOf (pOpen e (pParts seed x d 32) (pOthers seed x d 32) 32) = WD at *
  obtain ⟨q0, q1, q2⟩ := al3 w (.cells (bc R) 23) (.cells (bc e) 23) (.cells #[.int .i64 (x : Int), .slice (some ⟨g, 0, none⟩) 32 32, .slice (some ⟨g + 1, 0, none⟩) 32 32, .slice (some ⟨gp, 0, none⟩) 4 4] 31)
  have hb := bel3 w (.cells (bc R) 23) (.cells (bc e) 23) (.cells #[.int .i64 (x : Int), .slice (some ⟨g, 0, none⟩) 32 32, .slice (some ⟨g + 1, 0, none⟩) 32 32, .slice (some ⟨gp, 0, none⟩) 4 4] 31)
  have u1 := hide (Below.at hb (Array.getElem?_eq_some_iff.1 s1).1 s1)
  have u2 := hide (Below.at hb (Array.getElem?_eq_some_iff.1 s2).1 s2)
  have u3 := hide (Below.at hb (Array.getElem?_eq_some_iff.1 s3).1 s3)
  have HT := hide (tabs.below hb (Nat.le_refl _))
  clear hkk hRl hTl hans s1 s2 s3 tabs hPl hOl h32 hds
  obtain ⟨X, hX⟩ : ∃ X, ((w.alloc (.cells (bc R) 23)).alloc (.cells (bc e) 23)).alloc (.cells #[.int .i64 (x : Int), .slice (some ⟨g, 0, none⟩) 32 32, .slice (some ⟨g + 1, 0, none⟩) 32 32, .slice (some ⟨gp, 0, none⟩) 4 4] 31) = X := ⟨_, rfl⟩
  rw [hX] at q0 q1 q2 hb u1 u2 u3 HT
  have HX := hide hX
  have zX := (Array.getElem?_eq_some_iff.1 q2).1
  have c0 : X.cell? ⟨w.heap.size + 1 + 1, 0, none⟩ = some (.int .i64 (x : Int)) := cell_of_row _ _ _ _ _ _ q2
  have c1 : X.cell? ⟨w.heap.size + 1 + 1, 1, none⟩ = some (.slice (some ⟨g, 0, none⟩) 32 32) := cell_of_row _ _ _ _ _ _ q2
  have c2 : X.cell? ⟨w.heap.size + 1 + 1, 2, none⟩ = some (.slice (some ⟨g + 1, 0, none⟩) 32 32) := cell_of_row _ _ _ _ _ _ q2
  have c3 : X.cell? ⟨w.heap.size + 1 + 1, 3, none⟩ = some (.slice (some ⟨gp, 0, none⟩) 4 4) := cell_of_row _ _ _ _ _ _ q2
  clear hX
  go_enter Tryd.func11, Tryd.ntmps11
  go_wp2_with (rw [unhide HX])
  refine (unhide hk _).mono ?_
  rintro en w1 ⟨rfl, h1⟩
  rw [h1]
  clear h1
  go_wp2_with (refine wpList_load_row rfl 23 (.tmp 6) rfl (w.heap.size + 1) rfl 23 _ (0, 0) _ q1 Tryd.underlying23 rfl hid ?_)
  refine (unhide co _ (Array.getElem?_eq_some_iff.1 (unhide u1)).1 (Array.getElem?_eq_some_iff.1 (unhide u2)).1 (bytes_of_row (unhide u1)) (bytes_of_row (unhide u2)) (unhide HT)).mono ?_
  rintro en w2 ⟨rfl, b2⟩
  have z2 := b2.size
  have bW2 : Below w.heap.size w w2 := hb.trans (b2.mono hb.size)
  go_wp2_with (refine wpList_store_new rfl 23 (.tmp 9) (.tmp 29) rfl w2 _ _ WD rfl rfl hiW hzW ?_; intro w3 q9 b3 z3)
  have b13 : Below X.heap.size X w3 := b2.trans (b3.mono z2)
  have bW3 : Below w.heap.size w w3 := bW2.trans (b3.mono bW2.size)
  have p0 := Below.at b13 (Array.getElem?_eq_some_iff.1 q0).1 q0
  have p2 := Below.at b13 zX q2
  have p3 := Below.at b13 (Array.getElem?_eq_some_iff.1 (unhide u3)).1 (unhide u3)
  have t3 := (unhide HT).below b13 (Nat.le_refl _)
  have zp2 := (Array.getElem?_eq_some_iff.1 p2).1
  obtain ⟨K, hK⟩ : ∃ K, w2.heap.size = K := ⟨_, rfl⟩
  rw [hK] at q9
  rw [hK]
  have R0 : Hid (∀ w', (∃ p : Regrown, w' = Sort.grow (redrawn w3 p.d) p.os) → w'.heap[w.heap.size]? = some (.cells (bc R) 23 (0, 0))) := fun w' ⟨p, hp⟩ => by rw [hp]; exact Below.at (below_regrown w3 p.d p.os) (Array.getElem?_eq_some_iff.1 p0).1 p0
  have R9 : Hid (∀ w', (∃ p : Regrown, w' = Sort.grow (redrawn w3 p.d) p.os) → w'.heap[K]? = some (.cells (bc WD) 23 (0, 0))) := fun w' ⟨p, hp⟩ => by rw [hp]; exact Below.at (below_regrown w3 p.d p.os) (Array.getElem?_eq_some_iff.1 q9).1 q9
  have d0 : ∀ d os, (Sort.grow (redrawn w3 d) os).cell? ⟨w.heap.size + 1 + 1, 0, none⟩ = some (.int .i64 (x : Int)) := fun d os => by
    rw [(below_regrown w3 d os).cell (p := ⟨w.heap.size + 1 + 1, 0, none⟩) zp2]; exact cell_of_row _ _ _ _ _ _ p2
  have d3 : ∀ d os, (Sort.grow (redrawn w3 d) os).cell? ⟨w.heap.size + 1 + 1, 3, none⟩ = some (.slice (some ⟨gp, 0, none⟩) 4 4) := fun d os => by
    rw [(below_regrown w3 d os).cell (p := ⟨w.heap.size + 1 + 1, 3, none⟩) zp2]; exact cell_of_row _ _ _ _ _ _ p2
  have kC := hide fun d os => Calls.regrown_of (w := w3) (d := d) (os := os) (unhide cc _ (unhide hpd _ (Below.at (below_regrown w3 d os) (Array.getElem?_eq_some_iff.1 p3).1 p3)) (t3.below (below_regrown w3 d os) (Nat.le_refl _)))
  clear c0 c1 c2 c3 q0 q1 q2 q9 p0 p2 p3 t3 b2 b3 b13 z2 z3 hK zp2 zX bW2
  go_wp2_with fail
  refine wp_region_below mixed (by kernel_rfl) ?_
  quiet_step (fail)
  quiet_step (fail)
  quiet_step (fail)
  refine wpQuiet_load_row rfl 23 (.tmp 9) rfl K rfl 23 _ (0, 0) _ (unhide R9) Tryd.underlying23 rfl hiW ?_
  quiet_step (fail)
  quiet_step (fail)
  quiet_step (fail)
  quiet_step (fail)
  quiet_step (exact unhide kC _ _)
  refine wpQuiet_load_row rfl 23 (.tmp 5) rfl w.heap.size rfl 23 _ (0, 0) _ (unhide R0) Tryd.underlying23 rfl hiR ?_
  refine wpQuiet_eql rfl 23 23 (.tmp 39) (.tmp 40) rfl _ _ rfl rfl (by kernel_rfl) ans (unhide heq) ?_
  quiet_step (fail)
  repeat (quiet_step (fail))
  refine wpQuiet_nil ?_
  intro w4 b4
  go_wp2
  go_ret
  exact ⟨rfl, bW3.trans (b4.mono bW3.size)⟩
end Go.Proofs.YtjoefhdclghgaaaDoor

namespace Go.Proofs.YtjoefhdclghgaaaDoor
open Go.RowKit
set_option linter.unusedSimpArgs false
set_option linter.unusedVariables false

theorem pThrough_append (s : S8) (l m : List UInt8) : pThrough s (l ++ m) = pThrough (pThrough s l).1 ((pThrough s l).2 ++ m) := by
  generalize hn : l.length = n
  induction n using Nat.strongRecOn generalizing s l with
  | _ n ih =>
    by_cases h : 64 ≤ l.length
    · rw [pThrough_step s l h, pThrough_step s (l ++ m) (by simp; omega)]
      rw [List.take_append_of_le_length h, List.drop_append_of_le_length h]
      exact ih (l.drop 64).length (by simp; omega) _ _ rfl
    · rw [pThrough_end s l (by omega)]
/-- A number worked out, then handed on. -/
def fN {α : Type} (x : Nat) (k : Nat → α) : α := Nat.casesOn (motive := fun _ => α) x (k 0) (fun n => k (Nat.succ n))
theorem fN_eq {α : Type} (x : Nat) (k : Nat → α) : fN x k = k x := by cases x <;> rfl
/-- A list worked out, then handed on. -/
def fL {α : Type} : List Nat → (List Nat → α) → α
  | [], k => k []
  | x :: l, k => fN x fun y => fL l fun m => k (y :: m)
theorem fL_eq {α : Type} : ∀ (l : List Nat) (k : List Nat → α), fL l k = k l
  | [], k => rfl
  | x :: l, k => by rw [fL, fN_eq, fL_eq l]
def fTake {α : Type} : Nat → List Nat → (List Nat → List Nat → α) → α
  | 0, l, k => k [] l
  | n + 1, [], k => k [] []
  | n + 1, x :: l, k => fTake n l fun a b => k (x :: a) b
theorem fTake_eq {α : Type} : ∀ (n : Nat) (l : List Nat) (k : List Nat → List Nat → α), fTake n l k = k (l.take n) (l.drop n)
  | 0, l, k => rfl
  | n + 1, [], k => rfl
  | n + 1, x :: l, k => by rw [fTake, fTake_eq n l]; rfl
def fSnoc {α : Type} : List Nat → Nat → (List Nat → α) → α
  | [], x, k => k [x]
  | y :: l, x, k => fSnoc l x fun m => k (y :: m)
theorem fSnoc_eq {α : Type} : ∀ (l : List Nat) (x : Nat) (k : List Nat → α), fSnoc l x k = k (l ++ [x])
  | [], x, k => rfl
  | y :: l, x, k => by rw [fSnoc, fSnoc_eq l]; rfl
def M32 : Nat := nat_lit 4294967296
def fRot (x s t : Nat) : Nat := Nat.lor (Nat.mod (Nat.shiftLeft x s) (nat_lit 4294967296)) (Nat.shiftRight x t)
def fB0 (x : Nat) : Nat := Nat.xor (Nat.xor (fRot x (nat_lit 30) (nat_lit 2)) (fRot x (nat_lit 19) (nat_lit 13))) (fRot x (nat_lit 10) (nat_lit 22))
def fB1 (x : Nat) : Nat := Nat.xor (Nat.xor (fRot x (nat_lit 26) (nat_lit 6)) (fRot x (nat_lit 21) (nat_lit 11))) (fRot x (nat_lit 7) (nat_lit 25))
def fS0 (x : Nat) : Nat := Nat.xor (Nat.xor (fRot x (nat_lit 25) (nat_lit 7)) (fRot x (nat_lit 14) (nat_lit 18))) (Nat.shiftRight x (nat_lit 3))
def fS1 (x : Nat) : Nat := Nat.xor (Nat.xor (fRot x (nat_lit 15) (nat_lit 17)) (fRot x (nat_lit 13) (nat_lit 19))) (Nat.shiftRight x (nat_lit 10))
def fCh (x y z : Nat) : Nat := Nat.xor (Nat.land x y) (Nat.land (Nat.sub (nat_lit 4294967295) x) z)
def fMj (x y z : Nat) : Nat := Nat.xor (Nat.xor (Nat.land x y) (Nat.land x z)) (Nat.land y z)
theorem fRot_eq (x : BitVec 32) (n : Nat) (h0 : 0 < n) (h : n < 32) : fRot x.toNat (32 - n) n = (rotr x n).toNat := by
  unfold rotr rotl fRot
  rw [BitVec.toNat_or, BitVec.toNat_shiftLeft, BitVec.toNat_ushiftRight, show 32 - (32 - n) = n by omega]
  rfl
theorem fB0_eq (x : BitVec 32) : fB0 x.toNat = (pBigZero x).toNat := by
  unfold fB0 pBigZero
  rw [BitVec.toNat_xor, BitVec.toNat_xor, ← fRot_eq x 2 (by decide) (by decide), ← fRot_eq x 13 (by decide) (by decide), ← fRot_eq x 22 (by decide) (by decide)]
  rfl
theorem fB1_eq (x : BitVec 32) : fB1 x.toNat = (pBigOne x).toNat := by
  unfold fB1 pBigOne
  rw [BitVec.toNat_xor, BitVec.toNat_xor, ← fRot_eq x 6 (by decide) (by decide), ← fRot_eq x 11 (by decide) (by decide), ← fRot_eq x 25 (by decide) (by decide)]
  rfl
theorem fS0_eq (x : BitVec 32) : fS0 x.toNat = (pSmallZero x).toNat := by
  unfold fS0 pSmallZero
  rw [BitVec.toNat_xor, BitVec.toNat_xor, BitVec.toNat_ushiftRight, ← fRot_eq x 7 (by decide) (by decide), ← fRot_eq x 18 (by decide) (by decide)]
  rfl
theorem fS1_eq (x : BitVec 32) : fS1 x.toNat = (pSmallOne x).toNat := by
  unfold fS1 pSmallOne
  rw [BitVec.toNat_xor, BitVec.toNat_xor, BitVec.toNat_ushiftRight, ← fRot_eq x 17 (by decide) (by decide), ← fRot_eq x 19 (by decide) (by decide)]
  rfl
theorem fCh_eq (x y z : BitVec 32) : fCh x.toNat y.toNat z.toNat = (pChoice x y z).toNat := by
  unfold fCh pChoice
  rw [BitVec.toNat_xor, BitVec.toNat_and, BitVec.toNat_and, BitVec.toNat_not]
  rfl
theorem fMj_eq (x y z : BitVec 32) : fMj x.toNat y.toNat z.toNat = (pMajority x y z).toNat := by
  unfold fMj pMajority
  rw [BitVec.toNat_xor, BitVec.toNat_xor, BitVec.toNat_and, BitVec.toNat_and, BitVec.toNat_and]
  rfl
theorem addw_nat (x y : BitVec 32) : (addw x y).toNat = (x.toNat + y.toNat) % 4294967296 := BitVec.toNat_add x y
/-- The words that a block is drawn out to: the window goes on. -/
def fNext (l : List Nat) : Nat := Nat.mod (Nat.add (Nat.add (Nat.add (fS1 (l.getD 14 0)) (l.getD 9 0)) (fS0 (l.getD 1 0))) (l.getD 0 0)) (nat_lit 4294967296)
def fSch {α : Type} : Nat → List Nat → (List Nat → α) → α
  | 0, l, k => k l
  | n + 1, [], k => k []
  | n + 1, y :: l, k => fN (fNext (y :: l)) fun x => fSnoc l x fun m => fSch n m fun r => k (y :: r)
def schIt : Nat → List (BitVec 32) → List (BitVec 32)
  | 0, ws => ws
  | k + 1, ws => schIt k ws ++ [schedNext (schIt k ws)]
theorem schIt_len : ∀ k ws, (schIt k ws).length = ws.length + k
  | 0, ws => rfl
  | k + 1, ws => by rw [schIt, List.length_append, schIt_len k ws]; rfl
theorem schIt_comm : ∀ k ws, schIt (k + 1) ws = schIt k (ws ++ [schedNext ws])
  | 0, ws => rfl
  | k + 1, ws => by
    have ih := schIt_comm k ws
    show schIt (k + 1) ws ++ [schedNext (schIt (k + 1) ws)] = schIt k (ws ++ [schedNext ws]) ++ [schedNext (schIt k (ws ++ [schedNext ws]))]
    rw [ih]
theorem next_cons (y : BitVec 32) (ws : List (BitVec 32)) (h : 16 ≤ ws.length) : schedNext (y :: ws) = schedNext ws := by
  unfold schedNext
  rw [List.length_cons]
  rw [show ws.length + 1 - 2 = (ws.length - 2) + 1 by omega, show ws.length + 1 - 7 = (ws.length - 7) + 1 by omega, show ws.length + 1 - 15 = (ws.length - 15) + 1 by omega, show ws.length + 1 - 16 = (ws.length - 16) + 1 by omega]
  rfl
theorem schIt_cons (y : BitVec 32) : ∀ k ws, 16 ≤ ws.length → schIt k (y :: ws) = y :: schIt k ws
  | 0, ws, h => rfl
  | k + 1, ws, h => by
    rw [schIt, schIt_cons y k ws h, next_cons y _ (by rw [schIt_len]; omega)]
    rfl
theorem sched_it (l : List UInt8) (k : Nat) : schedN l k = schIt k (sched16 l 16) := by
  induction k with
  | zero => rfl
  | succ k ih => rw [schedN, schIt, ih]
theorem fNext_eq (ws : List (BitVec 32)) (h : ws.length = 16) : fNext (ws.map BitVec.toNat) = (schedNext ws).toNat := by
  match ws, h with
  | [w0, w1, w2, w3, w4, w5, w6, w7, w8, w9, w10, w11, w12, w13, w14, w15], _ =>
    show (fS1 w14.toNat + w9.toNat + fS0 w1.toNat + w0.toNat) % 4294967296 = _
    rw [fS1_eq, fS0_eq]
    show _ = (addw (addw (addw (pSmallOne w14) w9) (pSmallZero w1)) w0).toNat
    rw [addw_nat, addw_nat, addw_nat]
    omega
theorem fSch_eq {α : Type} : ∀ (n : Nat) (ws : List (BitVec 32)) (k : List Nat → α), ws.length = 16 → fSch n (ws.map BitVec.toNat) k = k ((schIt n ws).map BitVec.toNat)
  | 0, ws, k, h => rfl
  | n + 1, [], k, h => by simp at h
  | n + 1, y :: ws, k, h => by
    have hw : ws.length = 15 := by simpa using h
    rw [List.map_cons, fSch, fN_eq, fSnoc_eq]
    rw [show y.toNat :: ws.map BitVec.toNat = (y :: ws).map BitVec.toNat from rfl, fNext_eq (y :: ws) h]
    rw [show ws.map BitVec.toNat ++ [(schedNext (y :: ws)).toNat] = (ws ++ [schedNext (y :: ws)]).map BitVec.toNat by simp]
    rw [fSch_eq n _ _ (by simp [hw])]
    rw [schIt_comm]
    rw [show y :: ws ++ [schedNext (y :: ws)] = y :: (ws ++ [schedNext (y :: ws)]) from rfl, schIt_cons y n _ (by simp [hw])]
    rfl
def fRounds {α : Type} : List Nat → List Nat → Nat → Nat → Nat → Nat → Nat → Nat → Nat → Nat → (Nat → Nat → Nat → Nat → Nat → Nat → Nat → Nat → α) → α
  | [], _, a, b, c, d, e, f, g, h, k => k a b c d e f g h
  | _ :: _, [], a, b, c, d, e, f, g, h, k => k a b c d e f g h
  | q :: qs, w :: ws, a, b, c, d, e, f, g, h, k =>
    fN (Nat.mod (Nat.add (Nat.add (Nat.add (Nat.add h (fB1 e)) (fCh e f g)) q) w) (nat_lit 4294967296)) fun t =>
    fN (Nat.mod (Nat.add d t) (nat_lit 4294967296)) fun e' =>
    fN (Nat.mod (Nat.add t (Nat.add (fB0 a) (fMj a b c))) (nat_lit 4294967296)) fun a' =>
    fRounds qs ws a' a b c e' e f g k
theorem fRounds_step {α : Type} (q w : BitVec 32) (qs ws : List (BitVec 32)) (s : S8) (k : Nat → Nat → Nat → Nat → Nat → Nat → Nat → Nat → α) :
    fRounds ((q :: qs).map BitVec.toNat) ((w :: ws).map BitVec.toNat) s.a.toNat s.b.toNat s.c.toNat s.d.toNat s.e.toNat s.f.toNat s.g.toNat s.h.toNat k =
      fRounds (qs.map BitVec.toNat) (ws.map BitVec.toNat) (pRound q w s).a.toNat (pRound q w s).b.toNat (pRound q w s).c.toNat (pRound q w s).d.toNat (pRound q w s).e.toNat (pRound q w s).f.toNat (pRound q w s).g.toNat (pRound q w s).h.toNat k := by
  rw [List.map_cons, List.map_cons, fRounds, fN_eq, fN_eq, fN_eq]
  have h1 : Nat.mod (Nat.add (Nat.add (Nat.add (Nat.add s.h.toNat (fB1 s.e.toNat)) (fCh s.e.toNat s.f.toNat s.g.toNat)) q.toNat) w.toNat) (nat_lit 4294967296) = (pOne q w s).toNat := by
    show (s.h.toNat + fB1 s.e.toNat + fCh s.e.toNat s.f.toNat s.g.toNat + q.toNat + w.toNat) % 4294967296 = _
    rw [fB1_eq, fCh_eq]
    unfold pOne
    rw [addw_nat, addw_nat, addw_nat, addw_nat]
    omega
  have h2 : Nat.mod (Nat.add s.d.toNat (pOne q w s).toNat) (nat_lit 4294967296) = (addw s.d (pOne q w s)).toNat := by rw [addw_nat]; rfl
  have h3 : Nat.mod (Nat.add (pOne q w s).toNat (Nat.add (fB0 s.a.toNat) (fMj s.a.toNat s.b.toNat s.c.toNat))) (nat_lit 4294967296) = (addw (pOne q w s) (pTwo s)).toNat := by
    show ((pOne q w s).toNat + (fB0 s.a.toNat + fMj s.a.toNat s.b.toNat s.c.toNat)) % 4294967296 = _
    rw [fB0_eq, fMj_eq]
    unfold pTwo
    rw [addw_nat, addw_nat]
    omega
  rw [h1, h2, h3]
  rfl
theorem fRounds_from {α : Type} (qs ws : List (BitVec 32)) (hq : qs.length = 64) (hw : ws.length = 64) (hk : qs = kWords) (s : S8) (k : Nat → Nat → Nat → Nat → Nat → Nat → Nat → Nat → α) : ∀ (m j : Nat), j + m = 64 →
    fRounds ((qs.drop j).map BitVec.toNat) ((ws.drop j).map BitVec.toNat) (pRounds ws s j).a.toNat (pRounds ws s j).b.toNat (pRounds ws s j).c.toNat (pRounds ws s j).d.toNat (pRounds ws s j).e.toNat (pRounds ws s j).f.toNat (pRounds ws s j).g.toNat (pRounds ws s j).h.toNat k =
      k (pRounds ws s 64).a.toNat (pRounds ws s 64).b.toNat (pRounds ws s 64).c.toNat (pRounds ws s 64).d.toNat (pRounds ws s 64).e.toNat (pRounds ws s 64).f.toNat (pRounds ws s 64).g.toNat (pRounds ws s 64).h.toNat
  | 0, j, h => by
    obtain rfl : j = 64 := by omega
    rw [List.drop_of_length_le (by omega)]
    rfl
  | m + 1, j, h => by
    have e1 : qs.drop j = qs.getD j 0 :: qs.drop (j + 1) := by rw [List.drop_eq_getElem_cons (by omega), List.getD_eq_getElem?_getD]; simp [show j < qs.length by omega]
    have e2 : ws.drop j = ws.getD j 0 :: ws.drop (j + 1) := by rw [List.drop_eq_getElem_cons (by omega), List.getD_eq_getElem?_getD]; simp [show j < ws.length by omega]
    rw [e1, e2, fRounds_step]
    have := fRounds_from qs ws hq hw hk s k m (j + 1) (by omega)
    rw [← this]
    have e3 : pRounds ws s (j + 1) = pRound (qs.getD j 0) (ws.getD j 0) (pRounds ws s j) := by rw [pRounds, hk]
    rw [e3]
def kNat : List Nat := [1116352408, 1899447441, 3049323471, 3921009573, 961987163, 1508970993, 2453635748, 2870763221, 3624381080, 310598401, 607225278, 1426881987, 1925078388, 2162078206, 2614888103, 3248222580, 3835390401, 4022224774, 264347078, 604807628, 770255983, 1249150122, 1555081692, 1996064986, 2554220882, 2821834349, 2952996808, 3210313671, 3336571891, 3584528711, 113926993, 338241895, 666307205, 773529912, 1294757372, 1396182291, 1695183700, 1986661051, 2177026350, 2456956037, 2730485921, 2820302411, 3259730800, 3345764771, 3516065817, 3600352804, 4094571909, 275423344, 430227734, 506948616, 659060556, 883997877, 958139571, 1322822218, 1537002063, 1747873779, 1955562222, 2024104815, 2227730452, 2361852424, 2428436474, 2756734187, 3204031479, 3329325298]
theorem kNat_eq : kNat = kWords.map BitVec.toNat := by decide +kernel
def fWords {α : Type} : List Nat → (List Nat → α) → α
  | a :: b :: c :: d :: l, k => fN (Nat.add (Nat.add (Nat.add (Nat.mul a (nat_lit 16777216)) (Nat.mul b (nat_lit 65536))) (Nat.mul c (nat_lit 256))) d) fun x => fWords l fun m => k (x :: m)
  | _, k => k []
theorem wAt_drop (l : List UInt8) (a b c d : UInt8) (k : Nat) : wAt (a :: b :: c :: d :: l) (k + 4) = wAt l k := rfl
theorem fWords_eq {α : Type} : ∀ (n : Nat) (l : List UInt8) (k : List Nat → α), l.length = 4 * n → fWords (l.map UInt8.toNat) k = k ((sched16 l n).map BitVec.toNat)
  | 0, l, k, h => by
    obtain rfl : l = [] := List.length_eq_zero_iff.1 (by omega)
    rfl
  | n + 1, l, k, h => by
    match l, h with
    | a :: b :: c :: d :: l, h =>
      have hl : l.length = 4 * n := by simp at h; omega
      rw [List.map_cons, List.map_cons, List.map_cons, List.map_cons, fWords, fN_eq, fWords_eq n l _ hl]
      have e : sched16 (a :: b :: c :: d :: l) (n + 1) = word a b c d :: sched16 l n := by
        unfold sched16
        rw [List.range_succ_eq_map, List.map_cons, List.map_map]
        congr 1
      rw [e, List.map_cons, word_toNat]
      rfl
def fBlock {α : Type} (a b c d e f g h : Nat) (blk : List Nat) (k : Nat → Nat → Nat → Nat → Nat → Nat → Nat → Nat → α) : α :=
  fWords blk fun ws => fSch 48 ws fun sc => fRounds kNat sc a b c d e f g h fun a' b' c' d' e' f' g' h' =>
    fN (Nat.mod (Nat.add a a') (nat_lit 4294967296)) fun a => fN (Nat.mod (Nat.add b b') (nat_lit 4294967296)) fun b => fN (Nat.mod (Nat.add c c') (nat_lit 4294967296)) fun c => fN (Nat.mod (Nat.add d d') (nat_lit 4294967296)) fun d =>
    fN (Nat.mod (Nat.add e e') (nat_lit 4294967296)) fun e => fN (Nat.mod (Nat.add f f') (nat_lit 4294967296)) fun f => fN (Nat.mod (Nat.add g g') (nat_lit 4294967296)) fun g => fN (Nat.mod (Nat.add h h') (nat_lit 4294967296)) fun h => k a b c d e f g h
theorem fBlock_eq {α : Type} (s : S8) (l : List UInt8) (hl : l.length = 64) (k : Nat → Nat → Nat → Nat → Nat → Nat → Nat → Nat → α) :
    fBlock s.a.toNat s.b.toNat s.c.toNat s.d.toNat s.e.toNat s.f.toNat s.g.toNat s.h.toNat (l.map UInt8.toNat) k =
      k (pBlock s l).a.toNat (pBlock s l).b.toNat (pBlock s l).c.toNat (pBlock s l).d.toNat (pBlock s l).e.toNat (pBlock s l).f.toNat (pBlock s l).g.toNat (pBlock s l).h.toNat := by
  unfold fBlock
  rw [fWords_eq 16 l _ (by omega), fSch_eq 48 _ _ (sched16_length l 16), ← sched_it]
  rw [kNat_eq]
  have e := fun (k : Nat → Nat → Nat → Nat → Nat → Nat → Nat → Nat → α) => fRounds_from kWords (schedN l 48) (by decide) (by rw [schedN_length]) rfl s k 64 0 (by omega)
  simp only [List.drop_zero, pRounds] at e
  rw [e]
  simp only [fN_eq]
  rw [pBlock, if_pos hl]
  unfold S8.add
  simp only [addw_nat]
  rfl
def fThrough {α : Type} : Nat → List Nat → Nat → Nat → Nat → Nat → Nat → Nat → Nat → Nat → (Nat → Nat → Nat → Nat → Nat → Nat → Nat → Nat → α) → α
  | 0, _, a, b, c, d, e, f, g, h, k => k a b c d e f g h
  | n + 1, l, a, b, c, d, e, f, g, h, k => fTake 64 l fun blk rest => fBlock a b c d e f g h blk fun a b c d e f g h => fThrough n rest a b c d e f g h k
theorem fThrough_eq {α : Type} : ∀ (n : Nat) (l : List UInt8) (s : S8) (k : Nat → Nat → Nat → Nat → Nat → Nat → Nat → Nat → α), l.length = 64 * n →
    fThrough n (l.map UInt8.toNat) s.a.toNat s.b.toNat s.c.toNat s.d.toNat s.e.toNat s.f.toNat s.g.toNat s.h.toNat k =
      k (pThrough s l).1.a.toNat (pThrough s l).1.b.toNat (pThrough s l).1.c.toNat (pThrough s l).1.d.toNat (pThrough s l).1.e.toNat (pThrough s l).1.f.toNat (pThrough s l).1.g.toNat (pThrough s l).1.h.toNat
  | 0, l, s, k, h => by rw [fThrough, pThrough_end s l (by omega)]
  | n + 1, l, s, k, h => by
    rw [fThrough, fTake_eq, ← List.map_take, ← List.map_drop, fBlock_eq s (l.take 64) (by rw [List.length_take]; omega), fThrough_eq n (l.drop 64) (pBlock s (l.take 64)) k (by rw [List.length_drop]; omega), ← pThrough_step s l (by omega)]
def fByte (x s : Nat) : Nat := Nat.mod (Nat.shiftRight x s) (nat_lit 256)
def fBytes {α : Type} (x : Nat) (m : List Nat) (k : List Nat → α) : α :=
  fN (fByte x (nat_lit 24)) fun a => fN (fByte x (nat_lit 16)) fun b => fN (fByte x (nat_lit 8)) fun c => fN (fByte x (nat_lit 0)) fun d => k (a :: b :: c :: d :: m)
theorem fByte_eq (x : BitVec 32) (s : Nat) : fByte x.toNat s = (UInt8.ofNat (x.toNat / 2 ^ s)).toNat := by
  rw [UInt8.toNat_ofNat']
  show (x.toNat >>> s) % 256 = _
  rw [Nat.shiftRight_eq_div_pow]
theorem fBytes_eq {α : Type} (x : BitVec 32) (m : List UInt8) (k : List Nat → α) : fBytes x.toNat (m.map UInt8.toNat) k = k ((wordBytes x ++ m).map UInt8.toNat) := by
  unfold fBytes
  simp only [fN_eq, fByte_eq]
  rfl
/-- The digest of a message that is whole blocks. -/
def fHash {α : Type} (n : Nat) (m : List Nat) (k : List Nat → α) : α :=
  fL m fun m => fThrough n m (nat_lit 1779033703) (nat_lit 3144134277) (nat_lit 1013904242) (nat_lit 2773480762) (nat_lit 1359893119) (nat_lit 2600822924) (nat_lit 528734635) (nat_lit 1541459225) fun a b c d e f g h =>
    fBytes h [] fun r => fBytes g r fun r => fBytes f r fun r => fBytes e r fun r => fBytes d r fun r => fBytes c r fun r => fBytes b r fun r => fBytes a r k
def padOf (n : Nat) : List UInt8 := padBytes (n % 64) (BitVec.ofNat 64 n)
theorem rest_len (s : S8) : ∀ (n : Nat) (l : List UInt8), l.length / 64 = n → (pThrough s l).2.length = l.length % 64
  | 0, l, h => by rw [pThrough_end s l (by omega)]; show l.length = _; omega
  | n + 1, l, h => by
    rw [pThrough_step s l (by omega), rest_len _ n (l.drop 64) (by rw [List.length_drop]; omega), List.length_drop]
    omega
theorem pSum_pad (l : List UInt8) : pSum [l] = (pThrough pBegin.s (l ++ padOf l.length)).1.bytes := by
  show pEnd (pAdd pBegin l) = _
  unfold pEnd pAdd
  simp only [pBegin, List.nil_append]
  rw [pThrough_append _ l (padOf l.length)]
  have hr := rest_len ⟨1779033703, 3144134277, 1013904242, 2773480762, 1359893119, 2600822924, 528734635, 1541459225⟩ _ l rfl
  unfold padOf
  rw [hr, show add64 0 (BitVec.ofNat 64 l.length) = BitVec.ofNat 64 l.length from BitVec.zero_add _]
theorem fHash_eq {α : Type} (n : Nat) (l : List UInt8) (m : List Nat) (k : List Nat → α) (hl : (l ++ padOf l.length).length = 64 * n) (hm : m = (l ++ padOf l.length).map UInt8.toNat) : fHash n m k = k ((pSum [l]).map UInt8.toNat) := by
  unfold fHash
  rw [fL_eq, hm]
  have e := fun (k : Nat → Nat → Nat → Nat → Nat → Nat → Nat → Nat → α) => fThrough_eq n (l ++ padOf l.length) pBegin.s k hl
  have e' := e fun a b c d e f g h => fBytes h [] fun r => fBytes g r fun r => fBytes f r fun r => fBytes e r fun r => fBytes d r fun r => fBytes c r fun r => fBytes b r fun r => fBytes a r k
  rw [pSum_pad]
  refine Eq.trans e' ?_
  generalize (pThrough pBegin.s (l ++ padOf l.length)).1 = s
  rw [show ([] : List Nat) = ([] : List UInt8).map UInt8.toNat from rfl]
  simp only [fBytes_eq]
  congr 2
end Go.Proofs.YtjoefhdclghgaaaDoor

namespace Go.Proofs.YtjoefhdclghgaaaDoor
open Go.RowKit
set_option linter.unusedSimpArgs false
set_option linter.unusedVariables false

def fApp {α : Type} : List Nat → List Nat → (List Nat → α) → α
  | [], m, k => k m
  | x :: l, m, k => fApp l m fun r => k (x :: r)
theorem fApp_eq {α : Type} : ∀ (l m : List Nat) (k : List Nat → α), fApp l m k = k (l ++ m)
  | [], m, k => rfl
  | x :: l, m, k => by rw [fApp, fApp_eq l]; rfl
theorem big4 (n : Nat) (h : n < 256) : (pBig n 4).map UInt8.toNat = [0, 0, 0, n] := by
  show [(UInt8.ofNat (n / 2 ^ 24)).toNat, (UInt8.ofNat (n / 2 ^ 16)).toNat, (UInt8.ofNat (n / 2 ^ 8)).toNat, (UInt8.ofNat (n / 2 ^ 0)).toNat] = _
  rw [UInt8.toNat_ofNat', UInt8.toNat_ofNat', UInt8.toNat_ofNat', UInt8.toNat_ofNat', Nat.div_eq_of_lt (by omega), Nat.div_eq_of_lt (show n < 2 ^ 16 by omega), Nat.div_eq_of_lt (show n < 2 ^ 8 by omega), Nat.pow_zero, Nat.div_one, Nat.mod_eq_of_lt (show n < 2 ^ 8 by omega)]
theorem big1 (n : Nat) (h : n < 256) : (pBig n 1).map UInt8.toNat = [n] := by
  show [(UInt8.ofNat (n / 2 ^ 0)).toNat] = _
  rw [UInt8.toNat_ofNat', Nat.pow_zero, Nat.div_one, Nat.mod_eq_of_lt (show n < 2 ^ 8 by omega)]
theorem big2048 : (pBig 2048 4).map UInt8.toNat = [0, 0, 8, 0] := by decide +kernel
def pad55 : List Nat := [128, 0, 0, 0, 0, 0, 0, 1, 184]
def pad37 : List Nat := [128, 0, 0, 0, 0, 0, 0, 0, 0, 0, 0, 0, 0, 0, 0, 0, 0, 0, 0, 0, 0, 0, 0, 0, 0, 1, 40]
def pad2053 : List Nat := [128, 0, 0, 0, 0, 0, 0, 0, 0, 0, 0, 0, 0, 0, 0, 0, 0, 0, 0, 0, 0, 0, 0, 0, 0, 0, 0, 0, 0, 0, 0, 0, 0, 0, 0, 0, 0, 0, 0, 0, 0, 0, 0, 0, 0, 0, 0, 0, 0, 0, 0, 0, 0, 0, 0, 0, 0, 64, 40]
def pad73 : List Nat := [128, 0, 0, 0, 0, 0, 0, 0, 0, 0, 0, 0, 0, 0, 0, 0, 0, 0, 0, 0, 0, 0, 0, 0, 0, 0, 0, 0, 0, 0, 0, 0, 0, 0, 0, 0, 0, 0, 0, 0, 0, 0, 0, 0, 0, 0, 0, 0, 0, 0, 0, 0, 0, 2, 72]
theorem pad55_eq : (padOf 55).map UInt8.toNat = pad55 := by decide +kernel
theorem pad37_eq : (padOf 37).map UInt8.toNat = pad37 := by decide +kernel
theorem pad2053_eq : (padOf 2053).map UInt8.toNat = pad2053 := by decide +kernel
theorem pad73_eq : (padOf 73).map UInt8.toNat = pad73 := by decide +kernel
theorem padOf_55 : (padOf 55).length = 9 := by decide +kernel
theorem padOf_37 : (padOf 37).length = 27 := by decide +kernel
theorem padOf_2053 : (padOf 2053).length = 59 := by decide +kernel
theorem padOf_73 : (padOf 73).length = 55 := by decide +kernel
theorem pText_len (p : List UInt8) : (pText4 p).length = 4 + p.length := pText4_length p
def fSecret {α : Type} (s : List Nat) (x i b : Nat) (k : List Nat → α) : α :=
  fHash 1 (1 :: 0 :: 0 :: 0 :: 32 :: (s ++ (0 :: 0 :: 0 :: 4 :: 0 :: 0 :: 0 :: x :: 0 :: 0 :: 0 :: 1 :: i :: 0 :: 0 :: 0 :: 1 :: b :: pad55))) k
theorem fSecret_eq {α : Type} (seed : List UInt8) (hs : seed.length = 32) (x i b : Nat) (hx : x < 256) (hi : i < 256) (hb : b < 256) (k : List Nat → α) : fSecret (seed.map UInt8.toNat) x i b k = k ((pSecret seed x i b).map UInt8.toNat) := by
  have hl : (pInput 1 [seed, pBig x 4, pBig i 1, pBig b 1]).length = 55 := by
    simp only [pInput, List.length_append, pBig_length, List.flatMap_cons, List.flatMap_nil, pText_len, hs, List.length_nil]
  refine fHash_eq 1 (pInput 1 [seed, pBig x 4, pBig i 1, pBig b 1]) _ k (by rw [List.length_append, hl, padOf_55]) ?_
  rw [hl, List.map_append, pad55_eq]
  simp only [pInput, List.map_append, List.flatMap_cons, List.flatMap_nil, pText4, hs, pBig_length, big4 32 (by decide), big4 4 (by decide), big4 1 (by decide), big4 x hx, big1 1 (by decide), big1 i hi, big1 b hb, List.map_nil]
  simp only [List.append_nil, List.append_assoc, List.cons_append, List.nil_append]
def fPublic {α : Type} (s : List Nat) (k : List Nat → α) : α := fHash 1 (2 :: 0 :: 0 :: 0 :: 32 :: (s ++ pad37)) k
theorem fPublic_eq {α : Type} (s : List UInt8) (hs : s.length = 32) (k : List Nat → α) : fPublic (s.map UInt8.toNat) k = k ((pPublic s).map UInt8.toNat) := by
  have hl : (pInput 2 [s]).length = 37 := by simp only [pInput, List.length_append, pBig_length, List.flatMap_cons, List.flatMap_nil, pText_len, hs, List.length_nil]
  refine fHash_eq 1 (pInput 2 [s]) _ k (by rw [List.length_append, hl, padOf_37]) ?_
  rw [hl, List.map_append, pad37_eq]
  simp only [pInput, List.map_append, List.flatMap_cons, List.flatMap_nil, pText4, hs, big4 32 (by decide), big1 2 (by decide), List.map_nil]
  simp only [List.append_nil, List.append_assoc, List.cons_append, List.nil_append]
def fPubs {α : Type} (s : List Nat) (x : Nat) : List Nat → (List Nat → α) → α
  | [], k => k []
  | j :: js, k => fN j fun j => fSecret s x (Nat.div j 2) (Nat.mod j 2) fun sec => fPublic sec fun p => fPubs s x js fun r => fApp p r k
theorem fPubs_eq {α : Type} (seed : List UInt8) (hs : seed.length = 32) (x : Nat) (hx : x < 256) : ∀ (js : List Nat) (k : List Nat → α), (∀ j ∈ js, j < 256) → fPubs (seed.map UInt8.toNat) x js k = k ((js.flatMap (pubAt seed x)).map UInt8.toNat)
  | [], k, h => rfl
  | j :: js, k, h => by
    have hj := h j (by simp)
    rw [fPubs, fN_eq, fSecret_eq seed hs x (Nat.div j 2) (Nat.mod j 2) hx (show j / 2 < 256 by omega) (show j % 2 < 256 by omega), fPublic_eq _ (pSecret_length _ _ _ _), fPubs_eq seed hs x hx js _ (fun i hi => h i (by simp [hi])), fApp_eq, ← List.map_append]
    rfl
def fWordOf {α : Type} (ps : List Nat) (k : List Nat → α) : α := fHash 33 (3 :: 0 :: 0 :: 8 :: 0 :: (ps ++ pad2053)) k
theorem fWordOf_eq {α : Type} (L : List UInt8) (hL : L.length = 2048) (k : List Nat → α) : fWordOf (L.map UInt8.toNat) k = k ((pWordOf L).map UInt8.toNat) := by
  have hl : (pInput 3 [L]).length = 2053 := by simp only [pInput, List.length_append, pBig_length, List.flatMap_cons, List.flatMap_nil, pText_len, hL, List.length_nil]
  refine fHash_eq 33 (pInput 3 [L]) _ k (by rw [List.length_append, hl, padOf_2053]) ?_
  rw [hl, List.map_append, pad2053_eq]
  simp only [pInput, List.map_append, List.flatMap_cons, List.flatMap_nil, pText4, hL, big2048, big1 3 (by decide), List.map_nil]
  simp only [List.append_nil, List.append_assoc, List.cons_append, List.nil_append]
def fNode {α : Type} (a b : List Nat) (k : List Nat → α) : α := fHash 2 (4 :: 0 :: 0 :: 0 :: 32 :: (a ++ (0 :: 0 :: 0 :: 32 :: (b ++ pad73)))) k
theorem fNode_eq {α : Type} (a b : List UInt8) (ha : a.length = 32) (hb : b.length = 32) (k : List Nat → α) : fNode (a.map UInt8.toNat) (b.map UInt8.toNat) k = k ((pR a b).map UInt8.toNat) := by
  have hl : (pInput 4 [a, b]).length = 73 := by simp only [pInput, List.length_append, pBig_length, List.flatMap_cons, List.flatMap_nil, pText_len, ha, hb, List.length_nil]
  refine fHash_eq 2 (pInput 4 [a, b]) _ k (by rw [List.length_append, hl, padOf_73]) ?_
  rw [hl, List.map_append, pad73_eq]
  simp only [pInput, List.map_append, List.flatMap_cons, List.flatMap_nil, pText4, ha, hb, big4 32 (by decide), big1 4 (by decide), List.map_nil]
  simp only [List.append_nil, List.append_assoc, List.cons_append, List.nil_append]
/-- Numbers as bytes. -/
def ub (l : List Nat) : List UInt8 := l.map UInt8.ofNat
theorem ub_nat (l : List UInt8) : ub (l.map UInt8.toNat) = l := by
  unfold ub
  rw [List.map_map]
  conv => rhs; rw [← List.map_id l]
  apply List.map_congr_left
  intro x _
  simp
def fId : List Nat → List Nat := fun d => d
theorem word_lit (seed : List UInt8) (hs : seed.length = 32) (x : Nat) (hx : x < 256) (js : List Nat) (hj : ∀ j ∈ js, j < 256) (hl : js.length = 64) (D : List Nat)
    (h : fPubs (seed.map UInt8.toNat) x js (fun ps => fWordOf ps fId) = D) : pWordOf (js.flatMap (pubAt seed x)) = ub D := by
  have hL : ∀ js : List Nat, (js.flatMap (pubAt seed x)).length = 32 * js.length := fun js => by
    induction js with
    | nil => rfl
    | cons j js ih => rw [List.flatMap_cons, List.length_append, ih, List.length_cons]; rw [show (pubAt seed x j).length = 32 from pPublic_length _]; omega
  rw [fPubs_eq seed hs x hx js _ hj, fWordOf_eq _ (by rw [hL, hl])] at h
  rw [← h]
  exact (ub_nat _).symm
theorem node_lit (A B D : List Nat) (hA : (ub A).map UInt8.toNat = A) (hB : (ub B).map UInt8.toNat = B) (la : (ub A).length = 32) (lb : (ub B).length = 32) (h : fNode A B fId = D) : pR (ub A) (ub B) = ub D := by
  have := fNode_eq (ub A) (ub B) la lb fId
  rw [hA, hB] at this
  rw [← h, this]
  exact (ub_nat _).symm
theorem pairs_at (seed : List UInt8) (x : Nat) (d e : List UInt8) (i : Nat) (hi : i < 32) : openAt e (pParts seed x d 32) (pOthers seed x d 32) i = if pBit d i = pBit e i then pubAt seed x (2 * i) ++ pubAt seed x (2 * i + 1) else pubAt seed x (2 * i + 1) ++ pubAt seed x (2 * i) := by
  have h1 : chunk (pParts seed x d 32) i = partAt seed x d i := flat_chunk _ (fun j => pSecret_length _ _ _ _) 32 i hi
  have h2 : chunk (pOthers seed x d 32) i = otherAt seed x d i := flat_chunk _ (fun j => pPublic_length _) 32 i hi
  have hb := pBit_lt d i
  have hc := pBit_lt e i
  unfold openAt
  rw [h1, h2]
  unfold partAt otherAt pubAt
  rw [show 2 * i / 2 = i by omega, show 2 * i % 2 = 0 by omega, show (2 * i + 1) / 2 = i by omega, show (2 * i + 1) % 2 = 1 by omega]
  have hb' : pBit d i = 0 ∨ pBit d i = 1 := by omega
  have hc' : pBit e i = 0 ∨ pBit e i = 1 := by omega
  rcases hb' with hb' | hb' <;> rcases hc' with hc' | hc' <;> rw [hb', hc'] <;> simp
def pairIdx (d e : List UInt8) (i : Nat) : List Nat := if pBit d i = pBit e i then [2 * i, 2 * i + 1] else [2 * i + 1, 2 * i]
theorem open_idx (seed : List UInt8) (x : Nat) (d e : List UInt8) : pOpen e (pParts seed x d 32) (pOthers seed x d 32) 32 = ((List.range 32).flatMap (pairIdx d e)).flatMap (pubAt seed x) := by
  unfold pOpen
  rw [List.flatMap_assoc]
  have : ∀ (l : List Nat), (∀ i ∈ l, i < 32) → l.flatMap (openAt e (pParts seed x d 32) (pOthers seed x d 32)) = l.flatMap fun i => (pairIdx d e i).flatMap (pubAt seed x) := fun l => by
    induction l with
    | nil => intro _; rfl
    | cons i l ih =>
      intro h
      rw [List.flatMap_cons, List.flatMap_cons, ih (fun j hj => h j (by simp [hj])), pairs_at seed x d e i (h i (by simp))]
      congr 1
      unfold pairIdx
      split <;> simp
  exact this _ fun i hi => List.mem_range.1 hi
theorem range64 (seed : List UInt8) (x : Nat) : pWord seed x = pWordOf ((List.range 64).flatMap (pubAt seed x)) := rfl
end Go.Proofs.YtjoefhdclghgaaaDoor

namespace Go.Proofs.YtjoefhdclghgaaaDoor
open Go.RowKit

def leaf0 : List Nat := [31, 253, 182, 141, 187, 27, 161, 71, 212, 165, 105, 158, 130, 149, 115, 127, 180, 11, 246, 230, 57, 132, 102, 200, 102, 250, 192, 38, 148, 20, 38, 90]
set_option maxRecDepth 100000 in
theorem leaf0_eq : pWord (7 :: List.replicate 31 0) 0 = ub leaf0 :=
  (range64 _ _).trans (word_lit (7 :: List.replicate 31 0) rfl 0 (by decide) (List.range 64) (fun j hj => by have := List.mem_range.1 hj; omega) (by simp) leaf0 (by kernel_rfl))
def leaf1 : List Nat := [75, 24, 41, 86, 102, 97, 78, 17, 239, 129, 133, 237, 173, 223, 239, 179, 223, 197, 143, 208, 230, 219, 107, 167, 157, 161, 212, 65, 62, 74, 248, 210]
set_option maxRecDepth 100000 in
theorem leaf1_eq : pWord (7 :: List.replicate 31 0) 1 = ub leaf1 :=
  (range64 _ _).trans (word_lit (7 :: List.replicate 31 0) rfl 1 (by decide) (List.range 64) (fun j hj => by have := List.mem_range.1 hj; omega) (by simp) leaf1 (by kernel_rfl))
def leaf2 : List Nat := [95, 136, 251, 80, 4, 13, 189, 143, 204, 157, 157, 120, 226, 211, 67, 191, 87, 50, 83, 187, 196, 228, 201, 143, 233, 253, 151, 123, 177, 26, 137, 105]
set_option maxRecDepth 100000 in
theorem leaf2_eq : pWord (7 :: List.replicate 31 0) 2 = ub leaf2 :=
  (range64 _ _).trans (word_lit (7 :: List.replicate 31 0) rfl 2 (by decide) (List.range 64) (fun j hj => by have := List.mem_range.1 hj; omega) (by simp) leaf2 (by kernel_rfl))
def leaf3 : List Nat := [92, 105, 144, 58, 207, 56, 29, 2, 91, 219, 97, 108, 242, 95, 30, 119, 135, 34, 196, 136, 177, 252, 40, 236, 237, 186, 37, 166, 6, 164, 250, 193]
set_option maxRecDepth 100000 in
theorem leaf3_eq : pWord (7 :: List.replicate 31 0) 3 = ub leaf3 :=
  (range64 _ _).trans (word_lit (7 :: List.replicate 31 0) rfl 3 (by decide) (List.range 64) (fun j hj => by have := List.mem_range.1 hj; omega) (by simp) leaf3 (by kernel_rfl))
end Go.Proofs.YtjoefhdclghgaaaDoor

namespace Go.Proofs.YtjoefhdclghgaaaDoor
open Go.RowKit

def leaf4 : List Nat := [106, 243, 155, 43, 104, 198, 242, 175, 236, 154, 128, 179, 2, 189, 109, 147, 88, 48, 127, 204, 5, 124, 148, 42, 135, 223, 242, 4, 188, 157, 85, 87]
set_option maxRecDepth 100000 in
theorem leaf4_eq : pWord (7 :: List.replicate 31 0) 4 = ub leaf4 :=
  (range64 _ _).trans (word_lit (7 :: List.replicate 31 0) rfl 4 (by decide) (List.range 64) (fun j hj => by have := List.mem_range.1 hj; omega) (by simp) leaf4 (by kernel_rfl))
def leaf5 : List Nat := [224, 105, 70, 93, 194, 57, 191, 3, 135, 116, 199, 242, 54, 45, 190, 174, 254, 238, 109, 39, 34, 255, 181, 147, 154, 210, 21, 126, 245, 203, 139, 2]
set_option maxRecDepth 100000 in
theorem leaf5_eq : pWord (7 :: List.replicate 31 0) 5 = ub leaf5 :=
  (range64 _ _).trans (word_lit (7 :: List.replicate 31 0) rfl 5 (by decide) (List.range 64) (fun j hj => by have := List.mem_range.1 hj; omega) (by simp) leaf5 (by kernel_rfl))
def leaf6 : List Nat := [91, 64, 202, 9, 168, 75, 147, 75, 244, 58, 211, 229, 201, 245, 108, 21, 197, 255, 89, 153, 0, 88, 45, 74, 87, 38, 138, 168, 61, 190, 141, 127]
set_option maxRecDepth 100000 in
theorem leaf6_eq : pWord (7 :: List.replicate 31 0) 6 = ub leaf6 :=
  (range64 _ _).trans (word_lit (7 :: List.replicate 31 0) rfl 6 (by decide) (List.range 64) (fun j hj => by have := List.mem_range.1 hj; omega) (by simp) leaf6 (by kernel_rfl))
def leaf7 : List Nat := [135, 145, 140, 33, 64, 73, 99, 146, 223, 88, 254, 105, 213, 85, 204, 238, 79, 34, 114, 39, 154, 236, 183, 54, 106, 53, 109, 45, 18, 108, 195, 196]
set_option maxRecDepth 100000 in
theorem leaf7_eq : pWord (7 :: List.replicate 31 0) 7 = ub leaf7 :=
  (range64 _ _).trans (word_lit (7 :: List.replicate 31 0) rfl 7 (by decide) (List.range 64) (fun j hj => by have := List.mem_range.1 hj; omega) (by simp) leaf7 (by kernel_rfl))
end Go.Proofs.YtjoefhdclghgaaaDoor

namespace Go.Proofs.YtjoefhdclghgaaaDoor
open Go.RowKit

def leaf8 : List Nat := [147, 12, 39, 40, 31, 106, 154, 91, 94, 36, 15, 171, 140, 78, 217, 149, 92, 224, 13, 22, 240, 72, 214, 139, 168, 196, 85, 124, 182, 163, 124, 235]
set_option maxRecDepth 100000 in
theorem leaf8_eq : pWord (7 :: List.replicate 31 0) 8 = ub leaf8 :=
  (range64 _ _).trans (word_lit (7 :: List.replicate 31 0) rfl 8 (by decide) (List.range 64) (fun j hj => by have := List.mem_range.1 hj; omega) (by simp) leaf8 (by kernel_rfl))
def leaf9 : List Nat := [26, 222, 177, 174, 214, 218, 94, 62, 159, 64, 146, 201, 45, 9, 115, 111, 163, 205, 119, 76, 135, 215, 133, 15, 42, 89, 51, 137, 5, 253, 134, 61]
set_option maxRecDepth 100000 in
theorem leaf9_eq : pWord (7 :: List.replicate 31 0) 9 = ub leaf9 :=
  (range64 _ _).trans (word_lit (7 :: List.replicate 31 0) rfl 9 (by decide) (List.range 64) (fun j hj => by have := List.mem_range.1 hj; omega) (by simp) leaf9 (by kernel_rfl))
def leaf10 : List Nat := [131, 87, 183, 74, 253, 153, 197, 93, 102, 237, 126, 153, 216, 234, 196, 37, 42, 207, 40, 40, 168, 251, 125, 146, 72, 242, 51, 172, 200, 118, 200, 15]
set_option maxRecDepth 100000 in
theorem leaf10_eq : pWord (7 :: List.replicate 31 0) 10 = ub leaf10 :=
  (range64 _ _).trans (word_lit (7 :: List.replicate 31 0) rfl 10 (by decide) (List.range 64) (fun j hj => by have := List.mem_range.1 hj; omega) (by simp) leaf10 (by kernel_rfl))
def leaf11 : List Nat := [10, 165, 39, 23, 137, 159, 97, 41, 119, 91, 25, 231, 78, 148, 4, 52, 46, 59, 160, 109, 230, 148, 57, 193, 96, 61, 103, 42, 24, 100, 149, 96]
set_option maxRecDepth 100000 in
theorem leaf11_eq : pWord (7 :: List.replicate 31 0) 11 = ub leaf11 :=
  (range64 _ _).trans (word_lit (7 :: List.replicate 31 0) rfl 11 (by decide) (List.range 64) (fun j hj => by have := List.mem_range.1 hj; omega) (by simp) leaf11 (by kernel_rfl))
end Go.Proofs.YtjoefhdclghgaaaDoor

namespace Go.Proofs.YtjoefhdclghgaaaDoor
open Go.RowKit

def leaf12 : List Nat := [40, 114, 73, 6, 91, 111, 92, 239, 20, 216, 141, 35, 80, 128, 51, 80, 116, 235, 117, 187, 66, 39, 42, 46, 133, 180, 200, 151, 20, 190, 16, 145]
set_option maxRecDepth 100000 in
theorem leaf12_eq : pWord (7 :: List.replicate 31 0) 12 = ub leaf12 :=
  (range64 _ _).trans (word_lit (7 :: List.replicate 31 0) rfl 12 (by decide) (List.range 64) (fun j hj => by have := List.mem_range.1 hj; omega) (by simp) leaf12 (by kernel_rfl))
def leaf13 : List Nat := [91, 21, 255, 61, 198, 61, 59, 65, 220, 95, 49, 22, 12, 246, 69, 87, 143, 180, 171, 108, 191, 210, 68, 143, 211, 129, 43, 35, 18, 17, 79, 135]
set_option maxRecDepth 100000 in
theorem leaf13_eq : pWord (7 :: List.replicate 31 0) 13 = ub leaf13 :=
  (range64 _ _).trans (word_lit (7 :: List.replicate 31 0) rfl 13 (by decide) (List.range 64) (fun j hj => by have := List.mem_range.1 hj; omega) (by simp) leaf13 (by kernel_rfl))
def leaf14 : List Nat := [219, 246, 252, 51, 126, 120, 217, 75, 148, 66, 57, 142, 10, 21, 255, 114, 29, 219, 28, 211, 40, 71, 95, 47, 188, 200, 214, 159, 204, 109, 96, 176]
set_option maxRecDepth 100000 in
theorem leaf14_eq : pWord (7 :: List.replicate 31 0) 14 = ub leaf14 :=
  (range64 _ _).trans (word_lit (7 :: List.replicate 31 0) rfl 14 (by decide) (List.range 64) (fun j hj => by have := List.mem_range.1 hj; omega) (by simp) leaf14 (by kernel_rfl))
def leaf15 : List Nat := [104, 199, 249, 48, 9, 234, 44, 162, 191, 94, 140, 11, 226, 64, 100, 137, 195, 71, 210, 159, 212, 9, 102, 66, 168, 237, 238, 141, 61, 188, 244, 255]
set_option maxRecDepth 100000 in
theorem leaf15_eq : pWord (7 :: List.replicate 31 0) 15 = ub leaf15 :=
  (range64 _ _).trans (word_lit (7 :: List.replicate 31 0) rfl 15 (by decide) (List.range 64) (fun j hj => by have := List.mem_range.1 hj; omega) (by simp) leaf15 (by kernel_rfl))
end Go.Proofs.YtjoefhdclghgaaaDoor

namespace Go.Proofs.YtjoefhdclghgaaaDoor
open Go.RowKit

def other0 : List Nat := [76, 28, 114, 72, 90, 85, 9, 73, 22, 119, 218, 145, 33, 234, 21, 75, 29, 8, 34, 214, 255, 46, 3, 185, 218, 76, 89, 109, 233, 204, 255, 39]
def dig1 : List UInt8 := 1 :: List.replicate 31 0
def dig2 : List UInt8 := 2 :: List.replicate 31 0
theorem idx12 : (List.range 32).flatMap (pairIdx dig1 dig2) = [0, 1, 2, 3, 4, 5, 6, 7, 8, 9, 10, 11, 13, 12, 15, 14, 16, 17, 18, 19, 20, 21, 22, 23, 24, 25, 26, 27, 28, 29, 30, 31, 32, 33, 34, 35, 36, 37, 38, 39, 40, 41, 42, 43, 44, 45, 46, 47, 48, 49, 50, 51, 52, 53, 54, 55, 56, 57, 58, 59, 60, 61, 62, 63] := by decide +kernel
set_option maxRecDepth 100000 in
theorem other0_eq : pWordOf (pOpen dig2 (pParts (7 :: List.replicate 31 0) 0 dig1 32) (pOthers (7 :: List.replicate 31 0) 0 dig1 32) 32) = ub other0 := by
  rw [open_idx, idx12]
  exact word_lit (7 :: List.replicate 31 0) rfl 0 (by decide) [0, 1, 2, 3, 4, 5, 6, 7, 8, 9, 10, 11, 13, 12, 15, 14, 16, 17, 18, 19, 20, 21, 22, 23, 24, 25, 26, 27, 28, 29, 30, 31, 32, 33, 34, 35, 36, 37, 38, 39, 40, 41, 42, 43, 44, 45, 46, 47, 48, 49, 50, 51, 52, 53, 54, 55, 56, 57, 58, 59, 60, 61, 62, 63] (by decide) (by decide) other0 (by kernel_rfl)
def node1_0 : List Nat := [85, 10, 70, 209, 84, 232, 191, 89, 49, 17, 38, 10, 156, 105, 197, 29, 209, 205, 121, 16, 141, 148, 226, 13, 236, 101, 159, 39, 143, 149, 238, 151]
theorem node1_0_eq : pR (ub leaf0) (ub leaf1) = ub node1_0 := node_lit leaf0 leaf1 node1_0 (by decide +kernel) (by decide +kernel) (by decide +kernel) (by decide +kernel) (by kernel_rfl)
def node1_1 : List Nat := [18, 133, 93, 108, 100, 243, 102, 57, 107, 156, 125, 36, 152, 248, 52, 79, 101, 111, 180, 244, 53, 129, 200, 34, 39, 111, 105, 135, 17, 195, 229, 204]
theorem node1_1_eq : pR (ub leaf2) (ub leaf3) = ub node1_1 := node_lit leaf2 leaf3 node1_1 (by decide +kernel) (by decide +kernel) (by decide +kernel) (by decide +kernel) (by kernel_rfl)
def node1_2 : List Nat := [39, 149, 179, 153, 140, 48, 26, 173, 26, 64, 135, 150, 158, 15, 103, 193, 229, 138, 60, 47, 69, 3, 110, 4, 101, 97, 207, 245, 83, 136, 112, 233]
theorem node1_2_eq : pR (ub leaf4) (ub leaf5) = ub node1_2 := node_lit leaf4 leaf5 node1_2 (by decide +kernel) (by decide +kernel) (by decide +kernel) (by decide +kernel) (by kernel_rfl)
def node1_3 : List Nat := [170, 89, 7, 94, 77, 31, 28, 166, 216, 207, 77, 146, 86, 202, 53, 252, 162, 220, 112, 62, 1, 128, 124, 99, 247, 69, 181, 67, 102, 94, 154, 55]
theorem node1_3_eq : pR (ub leaf6) (ub leaf7) = ub node1_3 := node_lit leaf6 leaf7 node1_3 (by decide +kernel) (by decide +kernel) (by decide +kernel) (by decide +kernel) (by kernel_rfl)
def node1_4 : List Nat := [210, 110, 24, 186, 103, 36, 215, 102, 93, 176, 250, 189, 75, 146, 217, 210, 26, 48, 94, 212, 46, 116, 8, 221, 39, 147, 112, 116, 15, 6, 204, 39]
theorem node1_4_eq : pR (ub leaf8) (ub leaf9) = ub node1_4 := node_lit leaf8 leaf9 node1_4 (by decide +kernel) (by decide +kernel) (by decide +kernel) (by decide +kernel) (by kernel_rfl)
def node1_5 : List Nat := [228, 167, 122, 155, 197, 122, 17, 5, 99, 4, 82, 209, 161, 154, 87, 163, 241, 48, 220, 87, 52, 167, 162, 213, 117, 79, 218, 154, 23, 164, 140, 174]
theorem node1_5_eq : pR (ub leaf10) (ub leaf11) = ub node1_5 := node_lit leaf10 leaf11 node1_5 (by decide +kernel) (by decide +kernel) (by decide +kernel) (by decide +kernel) (by kernel_rfl)
def node1_6 : List Nat := [101, 250, 36, 198, 57, 178, 49, 200, 175, 225, 197, 252, 13, 45, 108, 10, 192, 222, 49, 27, 228, 51, 164, 211, 198, 178, 195, 131, 130, 115, 236, 63]
theorem node1_6_eq : pR (ub leaf12) (ub leaf13) = ub node1_6 := node_lit leaf12 leaf13 node1_6 (by decide +kernel) (by decide +kernel) (by decide +kernel) (by decide +kernel) (by kernel_rfl)
def node1_7 : List Nat := [141, 170, 44, 160, 163, 222, 250, 214, 159, 215, 163, 181, 118, 254, 242, 55, 38, 30, 187, 72, 140, 94, 94, 150, 151, 143, 23, 122, 110, 197, 141, 253]
theorem node1_7_eq : pR (ub leaf14) (ub leaf15) = ub node1_7 := node_lit leaf14 leaf15 node1_7 (by decide +kernel) (by decide +kernel) (by decide +kernel) (by decide +kernel) (by kernel_rfl)
def node2_0 : List Nat := [254, 56, 198, 13, 220, 138, 102, 182, 115, 154, 166, 29, 203, 148, 70, 63, 163, 54, 99, 95, 208, 23, 215, 67, 118, 115, 145, 124, 162, 118, 220, 154]
theorem node2_0_eq : pR (ub node1_0) (ub node1_1) = ub node2_0 := node_lit node1_0 node1_1 node2_0 (by decide +kernel) (by decide +kernel) (by decide +kernel) (by decide +kernel) (by kernel_rfl)
def node2_1 : List Nat := [46, 76, 168, 82, 118, 57, 58, 229, 173, 39, 177, 188, 91, 115, 114, 160, 182, 1, 11, 24, 55, 47, 121, 250, 230, 255, 0, 134, 160, 170, 123, 200]
theorem node2_1_eq : pR (ub node1_2) (ub node1_3) = ub node2_1 := node_lit node1_2 node1_3 node2_1 (by decide +kernel) (by decide +kernel) (by decide +kernel) (by decide +kernel) (by kernel_rfl)
def node2_2 : List Nat := [239, 89, 93, 214, 116, 182, 144, 230, 0, 81, 113, 214, 75, 69, 116, 184, 127, 110, 90, 233, 84, 247, 199, 66, 70, 253, 49, 81, 134, 78, 158, 5]
theorem node2_2_eq : pR (ub node1_4) (ub node1_5) = ub node2_2 := node_lit node1_4 node1_5 node2_2 (by decide +kernel) (by decide +kernel) (by decide +kernel) (by decide +kernel) (by kernel_rfl)
def node2_3 : List Nat := [5, 138, 121, 119, 71, 241, 55, 196, 137, 20, 43, 123, 61, 238, 104, 79, 6, 155, 124, 203, 201, 86, 224, 121, 171, 35, 209, 78, 145, 134, 212, 116]
theorem node2_3_eq : pR (ub node1_6) (ub node1_7) = ub node2_3 := node_lit node1_6 node1_7 node2_3 (by decide +kernel) (by decide +kernel) (by decide +kernel) (by decide +kernel) (by kernel_rfl)
def node3_0 : List Nat := [132, 137, 197, 1, 93, 190, 129, 10, 109, 149, 146, 58, 174, 251, 188, 154, 247, 88, 217, 227, 62, 188, 216, 96, 188, 31, 131, 98, 237, 157, 114, 202]
theorem node3_0_eq : pR (ub node2_0) (ub node2_1) = ub node3_0 := node_lit node2_0 node2_1 node3_0 (by decide +kernel) (by decide +kernel) (by decide +kernel) (by decide +kernel) (by kernel_rfl)
def node3_1 : List Nat := [2, 210, 221, 109, 127, 178, 119, 207, 186, 252, 95, 211, 65, 226, 174, 198, 230, 142, 74, 58, 204, 190, 214, 55, 42, 69, 105, 150, 46, 51, 30, 36]
theorem node3_1_eq : pR (ub node2_2) (ub node2_3) = ub node3_1 := node_lit node2_2 node2_3 node3_1 (by decide +kernel) (by decide +kernel) (by decide +kernel) (by decide +kernel) (by kernel_rfl)
def node4_0 : List Nat := [210, 6, 81, 75, 212, 43, 222, 204, 39, 244, 25, 64, 29, 199, 84, 32, 68, 133, 103, 45, 244, 190, 133, 148, 109, 250, 193, 223, 48, 55, 254, 110]
theorem node4_0_eq : pR (ub node3_0) (ub node3_1) = ub node4_0 := node_lit node3_0 node3_1 node4_0 (by decide +kernel) (by decide +kernel) (by decide +kernel) (by decide +kernel) (by kernel_rfl)
def climb1 : List Nat := [106, 234, 159, 174, 84, 122, 231, 115, 34, 175, 169, 148, 6, 132, 126, 183, 186, 63, 203, 45, 85, 151, 25, 44, 227, 96, 35, 136, 211, 206, 140, 96]
theorem climb1_eq : pR (ub other0) (ub leaf1) = ub climb1 := node_lit other0 leaf1 climb1 (by decide +kernel) (by decide +kernel) (by decide +kernel) (by decide +kernel) (by kernel_rfl)
def climb2 : List Nat := [225, 186, 190, 220, 102, 228, 188, 196, 221, 177, 89, 86, 72, 135, 17, 117, 80, 219, 78, 170, 55, 221, 28, 157, 156, 42, 123, 160, 216, 60, 206, 96]
theorem climb2_eq : pR (ub climb1) (ub node1_1) = ub climb2 := node_lit climb1 node1_1 climb2 (by decide +kernel) (by decide +kernel) (by decide +kernel) (by decide +kernel) (by kernel_rfl)
def climb3 : List Nat := [220, 199, 113, 7, 38, 149, 95, 103, 195, 18, 28, 170, 167, 79, 37, 152, 95, 241, 126, 75, 74, 11, 152, 57, 119, 96, 40, 103, 79, 94, 121, 67]
theorem climb3_eq : pR (ub climb2) (ub node2_1) = ub climb3 := node_lit climb2 node2_1 climb3 (by decide +kernel) (by decide +kernel) (by decide +kernel) (by decide +kernel) (by kernel_rfl)
def climb4 : List Nat := [219, 149, 184, 113, 202, 190, 176, 184, 170, 252, 20, 178, 247, 218, 77, 152, 125, 241, 230, 40, 92, 38, 169, 6, 142, 0, 65, 49, 199, 19, 160, 96]
theorem climb4_eq : pR (ub climb3) (ub node3_1) = ub climb4 := node_lit climb3 node3_1 climb4 (by decide +kernel) (by decide +kernel) (by decide +kernel) (by decide +kernel) (by kernel_rfl)
set_option maxRecDepth 100000 in
theorem root16 (l0 l1 l2 l3 l4 l5 l6 l7 l8 l9 l10 l11 l12 l13 l14 l15 : List UInt8) : kRoot [l0, l1, l2, l3, l4, l5, l6, l7, l8, l9, l10, l11, l12, l13, l14, l15] = pR (pR (pR (pR l0 l1) (pR l2 l3)) (pR (pR l4 l5) (pR l6 l7))) (pR (pR (pR l8 l9) (pR l10 l11)) (pR (pR l12 l13) (pR l14 l15))) := by kernel_rfl
set_option maxRecDepth 100000 in
theorem path16 (l0 l1 l2 l3 l4 l5 l6 l7 l8 l9 l10 l11 l12 l13 l14 l15 : List UInt8) : kPath [l0, l1, l2, l3, l4, l5, l6, l7, l8, l9, l10, l11, l12, l13, l14, l15] 0 = [l1, (pR l2 l3), (pR (pR l4 l5) (pR l6 l7)), (pR (pR (pR l8 l9) (pR l10 l11)) (pR (pR l12 l13) (pR l14 l15)))] := by kernel_rfl
theorem kclimb4 (w p0 p1 p2 p3 : List UInt8) : kClimb w 0 [p0, p1, p2, p3] 4 = pR (pR (pR (pR w p0) p1) p2) p3 := rfl
theorem leaves7 : pLeaves (7 :: List.replicate 31 0) = [ub leaf0, ub leaf1, ub leaf2, ub leaf3, ub leaf4, ub leaf5, ub leaf6, ub leaf7, ub leaf8, ub leaf9, ub leaf10, ub leaf11, ub leaf12, ub leaf13, ub leaf14, ub leaf15] := by
  show [pWord (7 :: List.replicate 31 0) 0, pWord (7 :: List.replicate 31 0) 1, pWord (7 :: List.replicate 31 0) 2, pWord (7 :: List.replicate 31 0) 3, pWord (7 :: List.replicate 31 0) 4, pWord (7 :: List.replicate 31 0) 5, pWord (7 :: List.replicate 31 0) 6, pWord (7 :: List.replicate 31 0) 7, pWord (7 :: List.replicate 31 0) 8, pWord (7 :: List.replicate 31 0) 9, pWord (7 :: List.replicate 31 0) 10, pWord (7 :: List.replicate 31 0) 11, pWord (7 :: List.replicate 31 0) 12, pWord (7 :: List.replicate 31 0) 13, pWord (7 :: List.replicate 31 0) 14, pWord (7 :: List.replicate 31 0) 15] = _
  rw [leaf0_eq, leaf1_eq, leaf2_eq, leaf3_eq, leaf4_eq, leaf5_eq, leaf6_eq, leaf7_eq, leaf8_eq, leaf9_eq, leaf10_eq, leaf11_eq, leaf12_eq, leaf13_eq, leaf14_eq, leaf15_eq]
theorem root7 : kRoot (pLeaves (7 :: List.replicate 31 0)) = ub node4_0 := by
  rw [leaves7, root16, node1_0_eq, node1_1_eq, node1_2_eq, node1_3_eq, node1_4_eq, node1_5_eq, node1_6_eq, node1_7_eq, node2_0_eq, node2_1_eq, node2_2_eq, node2_3_eq, node3_0_eq, node3_1_eq, node4_0_eq]
theorem climb7 : kClimb (pWordOf (pOpen dig2 (pParts (7 :: List.replicate 31 0) 0 dig1 32) (pOthers (7 :: List.replicate 31 0) 0 dig1 32) 32)) 0 (kPath (pLeaves (7 :: List.replicate 31 0)) 0) 4 = ub climb4 := by
  rw [other0_eq, leaves7, path16, kclimb4, node1_1_eq, node1_2_eq, node1_3_eq, node2_1_eq, node1_4_eq, node1_5_eq, node1_6_eq, node1_7_eq, node2_2_eq, node2_3_eq, node3_1_eq, climb1_eq, climb2_eq, climb3_eq, climb4_eq]
theorem other7 : kClimb (pWordOf (pOpen dig2 (pParts (7 :: List.replicate 31 0) 0 dig1 32) (pOthers (7 :: List.replicate 31 0) 0 dig1 32) 32)) 0 (kPath (pLeaves (7 :: List.replicate 31 0)) 0) 4 ≠ kRoot (pLeaves (7 :: List.replicate 31 0)) := by
  rw [climb7, root7]
  decide +kernel
end Go.Proofs.YtjoefhdclghgaaaDoor

namespace Go.Proofs.YtjoefhdclghgaaaDoor
open Go Go.RowKit
set_option linter.unusedSimpArgs false
set_option linter.unusedVariables false

theorem wpQuiet_build_to {P : Program} {ops : Array Oper} {C : World → Prop} {Q : Act → Prop} {a : Act} {o : Oper} {rest : List Oper} (hw : Region.wanted o (yielded ops a.tmps) = true) (t : TypeId) (parts : Array (Nat × Operand)) (ho : o.op = .build t parts) (cells : Array Value)
    (hb : P.built t (parts.toList.map fun (i, x) => (i, a.eval x)) = some cells) (h : wpQuiet P ops C Q rest (a.put o.dst (.agg cells))) : wpQuiet P ops C Q (o :: rest) a := by
  rw [← Array.toList_map] at hb
  show if _ then _ else _
  rw [if_pos hw]
  refine ⟨.agg cells, fun w hC => ?_, h⟩
  unfold Oper.quietAt execOp
  simp only [ho, Sem.run_bind, run_build w t _ cells hb, Result.andThen_ok]
  exact ⟨rfl, rfl⟩
theorem pLeaves_get (seed : List UInt8) (x : Nat) (hx : x < 16) : (pLeaves seed).getD x [] = pWord seed x := by
  simp [pLeaves, List.getD_eq_getElem?_getD, hx]
set_option maxHeartbeats 8000000 in
set_option maxRecDepth 100000 in
theorem kawake_of (S1 A1 A2 : List UInt8) (h1 : S1.length = 32) (h2 : A1.length = 32) (h3 : A2.length = 32) (hb1 : Tryd.prog.built 23 [(0, .int .u8 7)] = some (bc S1)) (hb2 : Tryd.prog.built 23 [(0, .int .u8 1)] = some (bc A1)) (hb3 : Tryd.prog.built 23 [(0, .int .u8 2)] = some (bc A2))
    (hne : kClimb (pWordOf (pOpen A2 (pParts S1 0 A1 32) (pOthers S1 0 A1 32) 32)) 0 (kPath (pLeaves S1) 0) 4 ≠ kRoot (pLeaves S1)) (w : World) (tabs : Tabs w) :
    Calls Tryd.prog 5 #[] w fun e w' => e = .returned (.bool true) ∧ Below w.heap.size w w' := by
  have e0 : ((0 : Nat) : Int) = 0 := rfl
  have e1 : ((1 : Nat) : Int) = 1 := rfl
  have cn := hide fun W t => new_calls S1 h1 W t
  have cu0 := fun b off c W hD t => ksign_calls S1 h1 0 (by decide) (pLeaves S1) (pLeaves_len S1) b off c A1 h2 W hD t
  rw [e0] at cu0
  have cu := hide cu0
  have cr := hide fun n p c W hD t => kroot_calls S1 h1 n (pLeaves S1) (pLeaves_len S1) p c W hD t
  have cv := hide fun B cs W hS t => verify_true S1 A1 h1 h2 (pLeaves S1) (pLeaves_len S1) (pLeaves_32 S1) 0 (by decide) (pLeaves_get S1 0 (by decide)) B cs W hS t
  have cf0 := fun B cs W hS t => verify_at S1 A1 h1 h2 A2 h3 (pLeaves S1) (pLeaves_len S1) (pLeaves_32 S1) 0 (by decide) B cs W hS t
  rw [decide_eq_false hne] at cf0
  have cf := hide cf0
  have hsi := hide fun n v => sgc_info S1 h1 n v
  have hso := hide fun n p l c => sgc_one S1 n p l c
  have hsz := hide fun n v => sg0_size S1 h1 n v
  have hsn := hide fun n v => sgc_next S1 h1 n v
  have HB1 := hide hb1
  have HB2 := hide hb2
  have HB3 := hide hb3
  have HT := hide tabs
  clear hne cf0 cu0
  generalize kRoot (pLeaves S1) = RT at *
  generalize pLeaves S1 = LV at *
  clear e0 e1 hb1 hb2 hb3 tabs h2 h3
  go_enter Tryd.func5, Tryd.ntmps5
  go_wp2_with (refine wpList_build_to rfl 23 #[(0, .const (.int .u8 7))] rfl (bc S1) (unhide HB1) ?_)
  refine (unhide cn _ (unhide HT)).mono ?_
  rintro e w1 ⟨rfl, hD1, b1⟩
  obtain ⟨G0, hG0⟩ : ∃ G, w.heap.size + 1 + 1 = G := ⟨_, rfl⟩
  rw [hG0] at hD1
  rw [hG0]
  have i1 := unhide hsi 0 (.slice (some ⟨G0, 0, none⟩) 16 16)
  have o1 := unhide hso 0 (some ⟨G0, 0, none⟩) 16 16
  have z1 := unhide hsz 0 (.slice (some ⟨G0, 0, none⟩) 16 16)
  obtain ⟨C1, hC1⟩ : ∃ C, sgc S1 0 (.slice (some ⟨G0, 0, none⟩) 16 16) = C := ⟨_, rfl⟩
  have cu1 := unhide cu G0 0 16
  have cr1 := unhide cr 0 (some ⟨G0, 0, none⟩) 16
  rw [hC1] at i1 o1 z1 cu1 cr1
  rw [hC1]
  have CU := hide cu1
  have CR := hide cr1
  clear hG0 hC1 cu1 cr1
  go_wp2_with (first
    | (refine wpList_store_newV rfl 27 (.tmp 1) (.tmp 6) rfl w1 sg0 _ C1 rfl rfl i1 z1 o1 ?_; intro w2 q2 b2 zz2)
    | (refine wpList_load_row rfl 27 (.tmp 1) rfl w1.heap.size rfl 27 C1 (0, 0) _ q2 Tryd.underlying27 rfl i1 ?_)
    | (refine wpList_build_to rfl 23 #[(0, .const (.int .u8 1))] rfl (bc A1) (unhide HB2) ?_))
  have bW2 : Below w.heap.size w w2 := b1.trans (b2.mono b1.size)
  have hD2 := hD1.below b2 (Nat.le_refl _)
  refine (unhide CU _ hD2 ((unhide HT).below bW2 (Nat.le_refl _))).mono ?_
  rintro e w3 ⟨⟨gc, cap, cs, rfl, hgc, hDc, hSc⟩, b3⟩
  have bW3 : Below w.heap.size w w3 := bW2.trans (b3.mono bW2.size)
  have q3 := Below.at b3 (Array.getElem?_eq_some_iff.1 q2).1 q2
  have zq3 := (Array.getElem?_eq_some_iff.1 q3).1
  have hD3 := hD2.below b3 (Nat.le_refl _)
  have hcz := hSc.size
  have hx0 : cs[0]? = some (.int .i64 0) := by
    obtain ⟨g, gp, _, _, e, _⟩ := hSc.ex
    rw [e]; rfl
  have hui : (Tryd.prog.info? 31).map (·.size) = some cs.size := sig_info cs hcz.1
  have huq : sigZ.size = cs.size := by rw [hcz.1]; rfl
  have huo := hcz.2
  have i2 := unhide hsi (0 + 1) (.slice (some ⟨gc, 0, none⟩) 16 cap)
  have o2 := unhide hso (0 + 1) (some ⟨gc, 0, none⟩) 16 cap
  have z2 := unhide hsz (0 + 1) (.slice (some ⟨gc, 0, none⟩) 16 cap)
  have n2 := unhide hsn (0 + 1) (.slice (some ⟨gc, 0, none⟩) 16 cap)
  obtain ⟨C2, hC2⟩ : ∃ C, sgc S1 (0 + 1) (.slice (some ⟨gc, 0, none⟩) 16 cap) = C := ⟨_, rfl⟩
  have kv := unhide cv w2.heap.size cs
  have kf := unhide cf w2.heap.size cs
  rw [hC2] at i2 o2 z2 n2
  rw [hC2]
  have KV := hide kv
  have KF := hide kf
  have HS3 := hide hSc
  have HX0 := hide hx0
  have N2 := hide n2
  obtain ⟨a0, a1⟩ := al2 w3 (.cells sg0 27) (.cells sigZ 31)
  have s1 := (setRow_other ((w3.alloc (.cells sg0 27)).alloc (.cells sigZ 31)) w3.heap.size (w3.heap.size + 1) C2 (by omega)).trans a1
  have s0 := (setRow_other (((w3.alloc (.cells sg0 27)).alloc (.cells sigZ 31)).setRow w3.heap.size C2) (w3.heap.size + 1) w3.heap.size cs (by omega)).trans (setRow_heap _ _ _ C2 _ _ a0)
  have s2 := setRow_heap _ _ _ cs _ _ s1
  have bX : Below w3.heap.size w3 ((((w3.alloc (.cells sg0 27)).alloc (.cells sigZ 31)).setRow w3.heap.size C2).setRow (w3.heap.size + 1) cs) := below_setRow (below_setRow (bel2 w3 _ _) (Nat.le_refl _) _) (by omega) _
  clear hcz hC2 kv kf hSc b3 b2 bW2 hD1 hD2 q2 hDc hgc hx0 n2 cn cu cr cv cf hsi hso hsz hsn
  go_upto_region 3 with (first
    | (refine wpList_store_row rfl 27 (.tmp 2) (.tmp 11) rfl w3.heap.size C2 rfl rfl 27 _ a0 i2 z2 o2 ?_)
    | (refine wpList_store_row rfl 31 (.tmp 3) (.tmp 12) rfl (w3.heap.size + 1) cs rfl rfl 31 _ s1 hui huq huo ?_))
  obtain ⟨X, hX⟩ : ∃ X, (((w3.alloc (.cells sg0 27)).alloc (.cells sigZ 31)).setRow w3.heap.size C2).setRow (w3.heap.size + 1) cs = X := ⟨_, rfl⟩
  change Code.wp _ _ _ _ ((((w3.alloc (.cells sg0 27)).alloc (.cells sigZ 31)).setRow w3.heap.size C2).setRow (w3.heap.size + 1) cs)
  rw [hX] at s0 s2 bX
  rw [hX]
  have bWX : Below w.heap.size w X := bW3.trans (bX.mono bW3.size)
  have qX := Below.at bX zq3 q3
  have hDX := hD3.below bX (Nat.le_refl _)
  have hSX := (unhide HS3).below bX
  have tX := (unhide HT).below bWX (Nat.le_refl _)
  obtain ⟨G1, hG1⟩ : ∃ G, w1.heap.size = G := ⟨_, rfl⟩
  obtain ⟨G2, hG2⟩ : ∃ G, w3.heap.size = G := ⟨_, rfl⟩
  rw [hG1] at qX
  rw [hG2] at s0 s2
  rw [hG1, hG2]
  have zs0 := (Array.getElem?_eq_some_iff.1 s0).1
  have zs2 := (Array.getElem?_eq_some_iff.1 s2).1
  have R1 : Hid (∀ w', (∃ p : Regrown, w' = Sort.grow (redrawn X p.d) p.os) → w'.heap[G1]? = some (.cells C1 27 (0, 0))) := fun w' ⟨p, hp⟩ => by rw [hp]; exact Below.at (below_regrown X p.d p.os) (Array.getElem?_eq_some_iff.1 qX).1 qX
  have R3 : Hid (∀ w', (∃ p : Regrown, w' = Sort.grow (redrawn X p.d) p.os) → w'.heap[G2 + 1]? = some (.cells cs 31 (0, 0))) := fun w' ⟨p, hp⟩ => by rw [hp]; exact Below.at (below_regrown X p.d p.os) zs2 s2
  have d0 : ∀ d os, (Sort.grow (redrawn X d) os).cell? ⟨G2, 32, none⟩ = some (.int .i64 (0 + 1)) := fun d os => by
    rw [(below_regrown X d os).cell (p := ⟨G2, 32, none⟩) zs0, cell_of_row _ _ _ _ _ _ s0]; exact unhide N2
  have d3 : ∀ d os, (Sort.grow (redrawn X d) os).cell? ⟨G2 + 1, 0, none⟩ = some (.int .i64 0) := fun d os => by
    rw [(below_regrown X d os).cell (p := ⟨G2 + 1, 0, none⟩) zs2, cell_of_row _ _ _ _ _ _ s2]; exact unhide HX0
  have kR := hide fun d os => Calls.regrown_of (w := X) (d := d) (os := os) (unhide CR _ (hDX.below (below_regrown X d os) (Nat.le_refl _)) (tX.below (below_regrown X d os) (Nat.le_refl _)))
  have kV := hide fun d os => Calls.regrown_of (w := X) (d := d) (os := os) (unhide KV _ (hSX.below (below_regrown X d os)) (tX.below (below_regrown X d os) (Nat.le_refl _)))
  have kF := hide fun d os => Calls.regrown_of (w := X) (d := d) (os := os) (unhide KF _ (hSX.below (below_regrown X d os)) (tX.below (below_regrown X d os) (Nat.le_refl _)))
  clear hX s0 s1 s2 a0 a1 bX qX hDX hSX tX hG1 hG2 zq3 q3 hD3 bW3 CU CR KV KF zs0 zs2 N2 HX0
  refine wp_region_below mixed (by kernel_rfl) ?_
  iterate 13 quiet_step (fail)
  refine wpQuiet_load_row rfl 27 (.tmp 1) rfl G1 rfl 27 C1 (0, 0) _ (unhide R1) Tryd.underlying27 rfl i1 ?_
  quiet_step (exact unhide kR _ _)
  refine wpQuiet_build_to rfl 23 #[(0, .const (.int .u8 1))] rfl (bc A1) (unhide HB2) ?_
  refine wpQuiet_load_row rfl 31 (.tmp 3) rfl (G2 + 1) rfl 31 cs (0, 0) _ (unhide R3) Tryd.underlying31 rfl hui ?_
  quiet_step (exact unhide kV _ _)
  quiet_step (fail)
  quiet_step (fail)
  refine wpQuiet_load_row rfl 27 (.tmp 1) rfl G1 rfl 27 C1 (0, 0) _ (unhide R1) Tryd.underlying27 rfl i1 ?_
  quiet_step (exact unhide kR _ _)
  refine wpQuiet_build_to rfl 23 #[(0, .const (.int .u8 2))] rfl (bc A2) (unhide HB3) ?_
  refine wpQuiet_load_row rfl 31 (.tmp 3) rfl (G2 + 1) rfl 31 cs (0, 0) _ (unhide R3) Tryd.underlying31 rfl hui ?_
  quiet_step (exact unhide kF _ _)
  repeat (quiet_step (fail))
  refine wpQuiet_nil ?_
  intro w5 b5
  go_wp2
  go_ret
  exact ⟨rfl, bWX.trans (b5.mono bWX.size)⟩
theorem kawake_calls (w : World) (tabs : Tabs w) : Calls Tryd.prog 5 #[] w fun e w' => e = .returned (.bool true) ∧ Below w.heap.size w w' :=
  kawake_of (7 :: List.replicate 31 0) dig1 dig2 (by simp) (by kernel_rfl) (by kernel_rfl) (by kernel_rfl) (by kernel_rfl) (by kernel_rfl) other7 w tabs
end Go.Proofs.YtjoefhdclghgaaaDoor
