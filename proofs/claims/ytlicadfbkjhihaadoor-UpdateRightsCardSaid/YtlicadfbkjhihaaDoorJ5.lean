/-
  WHAT keys' Climb RETURNS, where there is no log.
-/
/-
  == OF A DIGEST WITH ITSELF.
-/
/-
  WHAT keys' Verify RETURNS of a signer's own signature, and of an empty one, where there is no log.
-/
/-
  WHAT keys' Verify RETURNS of a signature whose lists lie anywhere, where there is no log.
-/
/-
  WHAT keys' Verify RETURNS OF ANY SIGNATURE, where there is no log.
-/
/-
  LISTS OF DIGESTS IN MEMORY, as bytes.
-/
/-
  Verify OF ANY SIGNATURE, in one.
-/
/-
  THE DOCUMENT'S OWN Opened (layer 5), where there is no log.
-/
/-
  THE DOCUMENT's OWN DIGEST OF TWO DIGESTS, where there is no log.
-/
/-
  THE DOCUMENT'S OWN Opened OF OTHER NUMBERS, Climb, Verify (layers 5, 6), where there is no log.
-/
/-
  THE DOCUMENT'S OWN Verify (layer 6), where there is no log.
-/
import Derived.Test.YtlicadfbkjhihaaDoorJ4
import Derived.Test.YtlicadfbkjhihaaDoorJ3
import Derived.Test.YtlicadfbkjhihaaDoorJ0
import Derived.Deep.DeepCutAuto
import Derived.BigQuiet
import Derived.Test.YtlicadfbkjhihaaDoorJ1
import Derived.Test.YtlicadfbkjhihaaDoorJ2
namespace Go.Proofs.YtlicadfbkjhihaaDoor
open Go Go.RowKit
set_option linter.unusedSimpArgs false
set_option linter.unusedVariables false

theorem kand_one (M : Nat) (h : M < 9223372036854775808) : bits .and .i64 (M : Int) 1 = ((M % 2 : Nat) : Int) := by
  have h1 : (BitVec.ofInt 64 (M : Int)).toNat = M := by
    rw [BitVec.ofInt_natCast, BitVec.toNat_ofNat]; exact Nat.mod_eq_of_lt (by omega)
  have h2 : (BitVec.ofInt 64 (1 : Int)).toNat = 1 := by decide
  show IntKind.i64.wrap ((BitVec.ofInt 64 (M : Int) &&& BitVec.ofInt 64 (1 : Int)).toNat : Int) = _
  rw [BitVec.toNat_and, h1, h2, Nat.and_one_is_mod, IntKind.wrap_i64]
  omega
set_option maxHeartbeats 4000000 in
set_option maxRecDepth 100000 in
theorem kclimb_calls (leaf : List UInt8) (hl : leaf.length = 32) (x : Nat) (hx : x < 4294967296) (ds : List (List UInt8)) (p : Option Addr) (cap : Nat) (hlen : ds.length ≤ 60) (w : World) (hD : DL w p ds) (tabs : Tabs w) :
    Calls Tryd.prog 45 #[.pointer none, .agg (bc leaf), .int .i64 (x : Int), .slice p ds.length cap] w fun e w' => e = .returned (.agg (bc (kClimb leaf x ds ds.length))) ∧ Below w.heap.size w w' := by
  have A3 := hide (al3 w (.cells (bc leaf) 23) (.cells (bc (List.replicate 32 0)) 23) (.cells (bc (List.replicate 32 0)) 23))
  have B3 := hide (bel3 w (.cells (bc leaf) 23) (.cells (bc (List.replicate 32 0)) 23) (.cells (bc (List.replicate 32 0)) 23))
  have hil := digInfo leaf hl
  have hzl := zeroSize leaf hl
  have hol := bc_oneCell leaf
  have HD := hide hD
  have HT := hide tabs
  have HL := hide (kClimb_length leaf x ds hl)
  have Hx := hide hx
  have Hlen := hide hlen
  clear tabs hD hx hlen
  go_enter Tryd.func45, Tryd.ntmps45
  go_wp2_with (first
    | refine wpList_load_row rfl 23 (.tmp 5) rfl w.heap.size rfl 23 _ (0, 0) _ (al2 w (.cells (bc leaf) 23) (.cells (bc (List.replicate 32 0)) 23)).1 Tryd.underlying23 rfl hil ?_
    | refine wpList_store_row rfl 23 (.tmp 9) (.tmp 12) rfl (w.heap.size + 1 + 1) _ rfl rfl 23 _ (unhide A3).2.2 hil hzl hol ?_)
  obtain ⟨N, hN⟩ : ∃ N, w.heap.size = N := ⟨_, rfl⟩
  have HN := hide hN
  go_loopw [15] (fun i wr => ∃ k : Nat, k ≤ ds.length ∧ i = .int .i64 (k : Int) ∧ Below N w wr ∧ wr.heap[N + 1]? = some (.cells (bc (List.replicate 32 0)) 23 (0, 0)) ∧ wr.heap[N + 1 + 1]? = some (.cells (bc (kClimb leaf x ds k)) 23 (0, 0))) (fun i _ => ds.length - (intOf i).toNat)
  case atStart =>
    subst hN
    refine ⟨0, by omega, rfl, below_setRow (unhide B3) (by omega) _, ?_, ?_⟩
    · exact (setRow_other _ _ _ _ (by omega)).trans (unhide A3).2.1
    · exact setRow_heap _ _ _ _ _ _ (unhide A3).2.2
  case round =>
    obtain ⟨k, hk, rfl, hb, q1, q2⟩ := hrel
    rw [hN]
    clear A3 B3
    by_cases hlt : k < ds.length
    · have hd : decide (k < ds.length) = true := by simpa using hlt
      have hDk := unhide HD
      obtain ⟨b, off, rfl, hlt2, hc⟩ := hDk.2 (by intro h; rw [h] at hlt; simp at hlt)
      have hEl := hDk.len k hlt
      have hr := rangeAt_below (hc k hlt) hb (by rw [← hN]; exact hlt2)
      have hTl := unhide HL k
      have hT2l := unhide HL (k + 1)
      have hT2e : kClimb leaf x ds (k + 1) = if x / 2 ^ k % 2 = 1 then pOf 4 [ds.getD k [], kClimb leaf x ds k] else pOf 4 [kClimb leaf x ds k, ds.getD k []] := rfl
      obtain ⟨E, hE⟩ : ∃ E, ds.getD k [] = E := ⟨_, rfl⟩
      rw [hE] at hEl hr hT2e
      obtain ⟨T1, hT1⟩ : ∃ T, kClimb leaf x ds k = T := ⟨_, rfl⟩
      rw [hT1] at hTl q2 hT2e
      obtain ⟨T2, hT2⟩ : ∃ T, kClimb leaf x ds (k + 1) = T := ⟨_, rfl⟩
      rw [hT2] at hT2e hT2l
      obtain ⟨B, hB⟩ : ∃ B, x / 2 ^ k = B := ⟨_, rfl⟩
      have hBl : B < 9223372036854775808 := by rw [← hB]; exact Nat.lt_of_le_of_lt (Nat.div_le_self _ _) (by have := unhide Hx; omega)
      have fB : (x : Int) / 2 ^ k = (B : Int) := by rw [← hB]; push_cast; rfl
      have fA := kand_one B hBl
      rw [hB] at hT2e
      have hk60 : k ≤ 60 := by have := unhide Hlen; omega
      have hiT := digInfo _ hTl
      have hiE := digInfo _ hEl
      have hi2 := digInfo _ hT2l
      have ho2 := bc_oneCell T2
      have hz2 : (bc T1).size = (bc T2).size := by rw [bc_size, bc_size, hTl, hT2l]
      have hzE := zeroSize E hEl
      have b1 : (0 : Int) ≤ k ∧ (k : Int) < ds.length := by omega
      have HR := hide hr
      have HEl := hide hEl
      have HTl := hide hTl
      have HT2 := hide hT2
      have HT2e := hide hT2e
      have Q1 := hide q1
      have Q2 := hide q2
      have HB := hide hb
      have Hk := hide hlt
      clear q1 q2 hb hlt hT2 hT2e hE hT1 hr hc hlt2 hB hEl hTl hT2l hDk hBl
      by_cases hbit : B % 2 = 1
      · have e1 := unhide HT2e
        rw [if_pos hbit] at e1
        have kN : Hid (∀ W, Tabs W → Calls Tryd.prog 51 #[.pointer none, .int .u8 4, .agg (bc E), .agg (bc T1)] W fun e w'' => e = .returned (.agg (bc T2)) ∧ Below W.heap.size W w'') := hide fun W tW => by
          rw [e1]; exact twoD_calls 4 (by decide) E T1 (unhide HEl) (unhide HTl) W tW
        rw [hbit] at fA
        clear e1 HT2e hbit
        go_wp2_with (first
          | (refine wpList_load_mid rfl 23 (.tmp 18) rfl b (off + k * 32) rfl (Lib.byteCells E) _ (unhide HR) Tryd.underlying23 rfl (by rw [Lib.byteCells_length, unhide HEl]; kernel_rfl) ?_)
          | (refine wpList_store_new rfl 23 (.tmp 11) (.tmp 19) rfl wr _ _ E rfl rfl hiE hzE ?_; intro w2 q3 b2 z2; have r2 := Below.at b2 (Array.getElem?_eq_some_iff.1 (unhide Q2)).1 (unhide Q2))
          | (refine wpList_load_row rfl 23 (.tmp 11) rfl wr.heap.size rfl 23 _ (0, 0) _ q3 Tryd.underlying23 rfl hiE ?_)
          | (refine wpList_load_row rfl 23 (.tmp 9) rfl (N + 1 + 1) rfl 23 _ (0, 0) _ r2 Tryd.underlying23 rfl hiT ?_))
        have bb2 : Below N w w2 := (unhide HB).trans (b2.mono (by have := (unhide HB).size; rw [← hN]; exact this))
        refine (unhide kN _ ((unhide HT).below bb2 (by rw [← hN]; exact Nat.le_refl _))).mono ?_
        rintro e w3 ⟨rfl, b3⟩
        have r1 := Below.at b2 (Array.getElem?_eq_some_iff.1 (unhide Q1)).1 (unhide Q1)
        have s1 := Below.at b3 (Array.getElem?_eq_some_iff.1 r1).1 r1
        have s2 := Below.at b3 (Array.getElem?_eq_some_iff.1 r2).1 r2
        have bb3 : Below N w w3 := bb2.trans (b3.mono (by have := bb2.size; rw [← hN]; exact this))
        clear b2 b3 r1 r2 z2 q3
        go_wp2_with (refine wpList_store_row rfl 23 (.tmp 9) (.tmp 28) rfl (N + 1 + 1) _ rfl rfl 23 _ s2 hi2 hz2 ho2 ?_)
        refine ⟨⟨k + 1, by have := unhide Hk; omega, by go_num, below_setRow bb3 (by omega) _, ?_, ?_⟩, by have := unhide Hk; simp [intOf]; omega⟩
        · rw [setRow_other _ _ _ _ (by omega)]; exact s1
        · rw [unhide HT2]; exact setRow_heap _ _ _ _ _ _ s2
      · have e1 := unhide HT2e
        rw [if_neg hbit] at e1
        have kN : Hid (∀ W, Tabs W → Calls Tryd.prog 51 #[.pointer none, .int .u8 4, .agg (bc T1), .agg (bc E)] W fun e w'' => e = .returned (.agg (bc T2)) ∧ Below W.heap.size W w'') := hide fun W tW => by
          rw [e1]; exact twoD_calls 4 (by decide) T1 E (unhide HTl) (unhide HEl) W tW
        rw [show B % 2 = 0 by omega] at fA
        clear e1 HT2e hbit
        go_wp2_with (first
          | (refine wpList_load_mid rfl 23 (.tmp 18) rfl b (off + k * 32) rfl (Lib.byteCells E) _ (unhide HR) Tryd.underlying23 rfl (by rw [Lib.byteCells_length, unhide HEl]; kernel_rfl) ?_)
          | (refine wpList_store_new rfl 23 (.tmp 11) (.tmp 19) rfl wr _ _ E rfl rfl hiE hzE ?_; intro w2 q3 b2 z2; have r2 := Below.at b2 (Array.getElem?_eq_some_iff.1 (unhide Q2)).1 (unhide Q2))
          | (refine wpList_load_row rfl 23 (.tmp 11) rfl wr.heap.size rfl 23 _ (0, 0) _ q3 Tryd.underlying23 rfl hiE ?_)
          | (refine wpList_load_row rfl 23 (.tmp 9) rfl (N + 1 + 1) rfl 23 _ (0, 0) _ r2 Tryd.underlying23 rfl hiT ?_))
        have bb2 : Below N w w2 := (unhide HB).trans (b2.mono (by have := (unhide HB).size; rw [← hN]; exact this))
        refine (unhide kN _ ((unhide HT).below bb2 (by rw [← hN]; exact Nat.le_refl _))).mono ?_
        rintro e w3 ⟨rfl, b3⟩
        have r1 := Below.at b2 (Array.getElem?_eq_some_iff.1 (unhide Q1)).1 (unhide Q1)
        have s1 := Below.at b3 (Array.getElem?_eq_some_iff.1 r1).1 r1
        have s2 := Below.at b3 (Array.getElem?_eq_some_iff.1 r2).1 r2
        have bb3 : Below N w w3 := bb2.trans (b3.mono (by have := bb2.size; rw [← hN]; exact this))
        clear b2 b3 r1 r2 z2 q3
        go_wp2_with (refine wpList_store_row rfl 23 (.tmp 9) (.tmp 32) rfl (N + 1 + 1) _ rfl rfl 23 _ s2 hi2 hz2 ho2 ?_)
        refine ⟨⟨k + 1, by have := unhide Hk; omega, by go_num, below_setRow bb3 (by omega) _, ?_, ?_⟩, by have := unhide Hk; simp [intOf]; omega⟩
        · rw [setRow_other _ _ _ _ (by omega)]; exact s1
        · rw [unhide HT2]; exact setRow_heap _ _ _ _ _ _ s2
    · have hd : decide (k < ds.length) = false := by simpa using hlt
      have hkl : k = ds.length := by omega
      have hM1 := unhide HL ds.length
      have hi := digInfo _ hM1
      have hz := zeroSize _ hM1
      have ho := bc_oneCell (kClimb leaf x ds ds.length)
      rw [hkl] at q2
      have Q1 := hide q1
      have Q2 := hide q2
      have HB := hide hb
      clear q1 q2 hb hkl hlt hM1
      go_wp2_with (first
        | refine wpList_load_row rfl 23 (.tmp 9) rfl (N + 1 + 1) rfl 23 _ (0, 0) _ (unhide Q2) Tryd.underlying23 rfl hi ?_
        | refine wpList_store_row rfl 23 (.tmp 8) (.tmp 34) rfl (N + 1) _ rfl rfl 23 _ (unhide Q1) hi hz ho ?_)
      exact bodyPost_ret (results_cell_row rfl _ _ (N + 1) _ _ _ _ rfl (setRow_heap _ _ _ _ _ _ (unhide Q1)) Tryd.underlying23 rfl hi) rfl ⟨rfl, by rw [unhide HN]; exact below_setRow (unhide HB) (by omega) _⟩
end Go.Proofs.YtlicadfbkjhihaaDoor

namespace Go.Proofs.YtlicadfbkjhihaaDoor
open Go.RowKit
set_option linter.unusedSimpArgs false
set_option linter.unusedVariables false

theorem dig_self (d : List UInt8) (hd : d.length = 32) (w : World) : (binOp .eql 23 (.agg (bc d)) (.agg (bc d))).run Tryd.prog w = .ok (.bool true) w := by
  obtain ⟨la, hla⟩ := keyLits_ints (P := Tryd.prog) 23 5 32 .u8 Tryd.underlying23 Tryd.underlying5 (by kernel_rfl) (by kernel_rfl) (d.map fun b => (b.toNat : Int)) (by simpa using hd) (fun z hz => by
    obtain ⟨b, _, rfl⟩ := List.mem_map.1 hz
    have := b.toNat_lt
    simp [Lit.wf, IntKind.min, IntKind.max, IntKind.signed, IntKind.bits]; omega)
  refine eql_refl 23 2 2 (by omega) (by kernel_rfl) _ ?_ la ?_ w
  · simp only [Value.formed, Tryd.underlying23, bc_size, hd]; kernel_rfl
  · rw [← hla]; simp [bc, Lib.byteCells]; rfl
end Go.Proofs.YtlicadfbkjhihaaDoor

namespace Go.Proofs.YtlicadfbkjhihaaDoor
open Go Go.RowKit
set_option linter.unusedSimpArgs false
set_option linter.unusedVariables false

theorem verify_empty (root d : Array Value) (w : World) :
    Calls Tryd.prog 29 #[.pointer none, .agg root, .agg d, .agg sigZ] w fun e w' => e = .returned (.bool false) ∧ Below w.heap.size w w' := by
  have hb := bel3 w (.cells root 23) (.cells d 23) (.cells sigZ 30)
  have hk := hide fun W => isKey_calls 0 W
  unfold sigZ at *
  go_enter Tryd.func29, Tryd.ntmps29
  go_wp2_with fail
  refine (unhide hk _).mono ?_
  rintro e w1 ⟨rfl, rfl⟩
  go_wp2
  go_ret
  exact ⟨rfl, hb⟩
theorem path_dl {w : World} {ds : List (List UInt8)} (hds : ds.length = 16) (h : ∀ d ∈ ds, d.length = 32) (x : Nat) (hx : x < 16) (gp : Nat) (t : TypeId) (hg : w.heap[gp]? = some (.cells (bc (pathB ds x 4)) t (0, 0))) : DL w (some ⟨gp, 0, none⟩) (kPath ds x) := by
  refine DL_of_cells (fun d hd => ?_) hg ?_
  · obtain ⟨i, hi, rfl⟩ := List.mem_map.1 hd
    exact pathAt_length ds hds h x hx i (List.mem_range.1 hi)
  · have e : (kPath ds x).flatten = pathB ds x 4 := by unfold kPath pathB; rw [List.flatMap_def]
    have hl := pathB_length ds hds h x hx 4 (Nat.le_refl _)
    rw [e, kPath_length, List.take_of_length_le (by simp [bc_size, hl])]
    simp [bc]
set_option maxHeartbeats 4000000 in
set_option maxRecDepth 100000 in
theorem verify_true (seed d : List UInt8) (hs : seed.length = 32) (hd : d.length = 32) (ds : List (List UInt8)) (hds : ds.length = 16) (h32 : ∀ d ∈ ds, d.length = 32) (x : Nat) (hx : x < 16) (hw : ds.getD x [] = pWord seed x) (B : Nat) (cs : Array Value) (w : World) (hS : SigAt w B seed d ds x cs) (tabs : Tabs w) :
    Calls Tryd.prog 29 #[.pointer none, .agg (bc (kRoot ds)), .agg (bc d), .agg cs] w fun e w' => e = .returned (.bool true) ∧ Below w.heap.size w w' := by
  obtain ⟨g, gp, _, _, rfl, s1, s2, s3⟩ := hS.ex
  have hRl := kRoot_length ds hds
  have hiR := digInfo _ hRl
  have hid := digInfo d hd
  have hk := hide fun W => isKey_calls (x : Int) W
  have hkk : (if (0 : Int) ≤ (x : Int) then decide ((x : Int) < 16) else false) = true := by rw [if_pos (by omega)]; simp; omega
  rw [hkk] at hk
  have hPl := pParts_length seed x d 32
  have hOl := pOthers_length seed x d 32
  have co := hide fun W h1 h2 b1 b2 t => opened_calls d hd (pParts seed x d 32) (pOthers seed x d 32) hPl hOl g 0 32 (g + 1) 0 32 W h1 h2 b1 b2 t
  rw [open_word] at co
  have hWl := pWord_length seed x
  have hiW := digInfo _ hWl
  have hzW := zeroSize _ hWl
  have cc := hide fun W hD t => kclimb_calls (pWord seed x) hWl x (by omega) (kPath ds x) (some ⟨gp, 0, none⟩) 4 (by rw [kPath_length]; omega) W hD t
  rw [kPath_length, ← hw, kClimb_root ds hds x hx, hw] at cc
  have heq := hide fun W => dig_self (kRoot ds) hRl W
  have hpd := hide fun (W : World) hg => path_dl (w := W) hds h32 x hx gp 23 hg
  clear hw hS
  generalize kRoot ds = R at *
  generalize pWord seed x = WD at *
  obtain ⟨q0, q1, q2⟩ := al3 w (.cells (bc R) 23) (.cells (bc d) 23) (.cells #[.int .i64 (x : Int), .slice (some ⟨g, 0, none⟩) 32 32, .slice (some ⟨g + 1, 0, none⟩) 32 32, .slice (some ⟨gp, 0, none⟩) 4 4] 30)
  have hb := bel3 w (.cells (bc R) 23) (.cells (bc d) 23) (.cells #[.int .i64 (x : Int), .slice (some ⟨g, 0, none⟩) 32 32, .slice (some ⟨g + 1, 0, none⟩) 32 32, .slice (some ⟨gp, 0, none⟩) 4 4] 30)
  have u1 := hide (Below.at hb (Array.getElem?_eq_some_iff.1 s1).1 s1)
  have u2 := hide (Below.at hb (Array.getElem?_eq_some_iff.1 s2).1 s2)
  have u3 := hide (Below.at hb (Array.getElem?_eq_some_iff.1 s3).1 s3)
  have HT := hide (tabs.below hb (Nat.le_refl _))
  clear hkk hRl s1 s2 s3 tabs hPl hOl h32 hds
  obtain ⟨X, hX⟩ : ∃ X, ((w.alloc (.cells (bc R) 23)).alloc (.cells (bc d) 23)).alloc (.cells #[.int .i64 (x : Int), .slice (some ⟨g, 0, none⟩) 32 32, .slice (some ⟨g + 1, 0, none⟩) 32 32, .slice (some ⟨gp, 0, none⟩) 4 4] 30) = X := ⟨_, rfl⟩
  rw [hX] at q0 q1 q2 hb u1 u2 u3 HT
  have HX := hide hX
  have zX := (Array.getElem?_eq_some_iff.1 q2).1
  have c0 : X.cell? ⟨w.heap.size + 1 + 1, 0, none⟩ = some (.int .i64 (x : Int)) := cell_of_row _ _ _ _ _ _ q2
  have c1 : X.cell? ⟨w.heap.size + 1 + 1, 1, none⟩ = some (.slice (some ⟨g, 0, none⟩) 32 32) := cell_of_row _ _ _ _ _ _ q2
  have c2 : X.cell? ⟨w.heap.size + 1 + 1, 2, none⟩ = some (.slice (some ⟨g + 1, 0, none⟩) 32 32) := cell_of_row _ _ _ _ _ _ q2
  have c3 : X.cell? ⟨w.heap.size + 1 + 1, 3, none⟩ = some (.slice (some ⟨gp, 0, none⟩) 4 4) := cell_of_row _ _ _ _ _ _ q2
  clear hX
  go_enter Tryd.func29, Tryd.ntmps29
  go_wp2_with (rw [unhide HX])
  refine (unhide hk _).mono ?_
  rintro e w1 ⟨rfl, h1⟩
  rw [h1]
  clear h1
  go_wp2_with (refine wpList_load_row rfl 23 (.tmp 6) rfl (w.heap.size + 1) rfl 23 _ (0, 0) _ q1 Tryd.underlying23 rfl hid ?_)
  refine (unhide co _ (Array.getElem?_eq_some_iff.1 (unhide u1)).1 (Array.getElem?_eq_some_iff.1 (unhide u2)).1 (bytes_of_row (unhide u1)) (bytes_of_row (unhide u2)) (unhide HT)).mono ?_
  rintro e w2 ⟨rfl, b2⟩
  have z2 := b2.size
  have bW2 : Below w.heap.size w w2 := hb.trans (b2.mono hb.size)
  go_wp2_with (refine wpList_store_new rfl 23 (.tmp 9) (.tmp 29) rfl w2 _ _ WD rfl rfl hiW hzW ?_; intro w3 q9 b3 z3)
  have b13 : Below X.heap.size X w3 := b2.trans (b3.mono z2)
  have bW3 : Below w.heap.size w w3 := bW2.trans (b3.mono bW2.size)
  have p0 := Below.at b13 (Array.getElem?_eq_some_iff.1 q0).1 q0
  have p2 := Below.at b13 zX q2
  have p3 := Below.at b13 (Array.getElem?_eq_some_iff.1 (unhide u3)).1 (unhide u3)
  have t3 := (unhide HT).below b13 (Nat.le_refl _)
  have zp2 := (Array.getElem?_eq_some_iff.1 p2).1
  obtain ⟨K, hK⟩ : ∃ K, w2.heap.size = K := ⟨_, rfl⟩
  rw [hK] at q9
  rw [hK]
  have R0 : Hid (∀ w', (∃ p : Regrown, w' = Sort.grow (redrawn w3 p.d) p.os) → w'.heap[w.heap.size]? = some (.cells (bc R) 23 (0, 0))) := fun w' ⟨p, hp⟩ => by rw [hp]; exact Below.at (below_regrown w3 p.d p.os) (Array.getElem?_eq_some_iff.1 p0).1 p0
  have R9 : Hid (∀ w', (∃ p : Regrown, w' = Sort.grow (redrawn w3 p.d) p.os) → w'.heap[K]? = some (.cells (bc WD) 23 (0, 0))) := fun w' ⟨p, hp⟩ => by rw [hp]; exact Below.at (below_regrown w3 p.d p.os) (Array.getElem?_eq_some_iff.1 q9).1 q9
  have d0 : ∀ d os, (Sort.grow (redrawn w3 d) os).cell? ⟨w.heap.size + 1 + 1, 0, none⟩ = some (.int .i64 (x : Int)) := fun d os => by
    rw [(below_regrown w3 d os).cell (p := ⟨w.heap.size + 1 + 1, 0, none⟩) zp2]; exact cell_of_row _ _ _ _ _ _ p2
  have d3 : ∀ d os, (Sort.grow (redrawn w3 d) os).cell? ⟨w.heap.size + 1 + 1, 3, none⟩ = some (.slice (some ⟨gp, 0, none⟩) 4 4) := fun d os => by
    rw [(below_regrown w3 d os).cell (p := ⟨w.heap.size + 1 + 1, 3, none⟩) zp2]; exact cell_of_row _ _ _ _ _ _ p2
  have kC := hide fun d os => Calls.regrown_of (w := w3) (d := d) (os := os) (unhide cc _ (unhide hpd _ (Below.at (below_regrown w3 d os) (Array.getElem?_eq_some_iff.1 p3).1 p3)) (t3.below (below_regrown w3 d os) (Nat.le_refl _)))
  clear c0 c1 c2 c3 q0 q1 q2 q9 p0 p2 p3 t3 b2 b3 b13 z2 z3 hK zp2 zX bW2
  go_wp2_with fail
  refine wp_region_below mixed (by kernel_rfl) ?_
  quiet_step (fail)
  quiet_step (fail)
  quiet_step (fail)
  refine wpQuiet_load_row rfl 23 (.tmp 9) rfl K rfl 23 _ (0, 0) _ (unhide R9) Tryd.underlying23 rfl hiW ?_
  quiet_step (fail)
  quiet_step (fail)
  quiet_step (fail)
  quiet_step (fail)
  quiet_step (exact unhide kC _ _)
  refine wpQuiet_load_row rfl 23 (.tmp 5) rfl w.heap.size rfl 23 _ (0, 0) _ (unhide R0) Tryd.underlying23 rfl hiR ?_
  refine wpQuiet_eql rfl 23 23 (.tmp 39) (.tmp 40) rfl _ _ rfl rfl (by kernel_rfl) true (unhide heq) ?_
  quiet_step (fail)
  repeat (quiet_step (fail))
  refine wpQuiet_nil ?_
  intro w4 b4
  go_wp2
  go_ret
  exact ⟨rfl, bW3.trans (b4.mono bW3.size)⟩
end Go.Proofs.YtlicadfbkjhihaaDoor

namespace Go.Proofs.YtlicadfbkjhihaaDoor
open Go Go.RowKit
set_option linter.unusedSimpArgs false
set_option linter.unusedVariables false

set_option maxHeartbeats 4000000 in
set_option maxRecDepth 100000 in
theorem verify_good (root e : List UInt8) (hRl : root.length = 32) (he : e.length = 32) (x : Nat) (hx : x < 16) (P O : List UInt8) (hPl : P.length = 1024) (hOl : O.length = 1024) (ds : List (List UInt8)) (hds : ds.length = 4) (g1 o1 c1 g2 o2 c2 : Nat) (p3 : Option Addr) (c3 : Nat) (w : World) (hg1 : g1 < w.heap.size) (hg2 : g2 < w.heap.size) (bP : Bytes w g1 o1 P) (bO : Bytes w g2 o2 O) (hD : DL w p3 ds) (tabs : Tabs w) :
    Calls Tryd.prog 29 #[.pointer none, .agg (bc root), .agg (bc e), .agg #[.int .i64 (x : Int), .slice (some ⟨g1, o1, none⟩) 32 c1, .slice (some ⟨g2, o2, none⟩) 32 c2, .slice p3 4 c3]] w fun en w' => en = .returned (.bool (decide (kClimb (pWordOf (pOpen e P O 32)) x ds 4 = root))) ∧ Below w.heap.size w w' := by
  have hiR := digInfo _ hRl
  have hid := digInfo e he
  have hk := hide fun W => isKey_calls (x : Int) W
  have hkk : (if (0 : Int) ≤ (x : Int) then decide ((x : Int) < 16) else false) = true := by rw [if_pos (by omega)]; simp; omega
  rw [hkk] at hk
  have co := hide fun W h1 h2 b1 b2 t => opened_calls e he P O hPl hOl g1 o1 c1 g2 o2 c2 W h1 h2 b1 b2 t
  have hWl : (pWordOf (pOpen e P O 32)).length = 32 := pOf_length _ _
  have hiW := digInfo _ hWl
  have hzW := zeroSize _ hWl
  have cc := hide fun W hD t => kclimb_calls (pWordOf (pOpen e P O 32)) hWl x (by omega) ds p3 c3 (by omega) W hD t
  rw [hds] at cc
  have hTl := kClimb_length (pWordOf (pOpen e P O 32)) x ds hWl 4
  have heq := hide fun W => dig_eq (kClimb (pWordOf (pOpen e P O 32)) x ds 4) root hTl hRl W
  obtain ⟨ans, hans⟩ : ∃ ans, decide (kClimb (pWordOf (pOpen e P O 32)) x ds 4 = root) = ans := ⟨_, rfl⟩
  rw [hans] at heq ⊢
  generalize kClimb (pWordOf (pOpen e P O 32)) x ds 4 = TD at *
  generalize pWordOf (pOpen e P O 32) = WD at *
  generalize root = R at *
  obtain ⟨q0, q1, q2⟩ := al3 w (.cells (bc R) 23) (.cells (bc e) 23) (.cells #[.int .i64 (x : Int), .slice (some ⟨g1, o1, none⟩) 32 c1, .slice (some ⟨g2, o2, none⟩) 32 c2, .slice p3 4 c3] 30)
  have hb := bel3 w (.cells (bc R) 23) (.cells (bc e) 23) (.cells #[.int .i64 (x : Int), .slice (some ⟨g1, o1, none⟩) 32 c1, .slice (some ⟨g2, o2, none⟩) 32 c2, .slice p3 4 c3] 30)
  have u1 := hide (bP.below hb hg1)
  have u2 := hide (bO.below hb hg2)
  have u3 := hide (hD.below hb (Nat.le_refl _))
  have z1 : g1 < (((w.alloc (.cells (bc R) 23)).alloc (.cells (bc e) 23)).alloc (.cells #[.int .i64 (x : Int), .slice (some ⟨g1, o1, none⟩) 32 c1, .slice (some ⟨g2, o2, none⟩) 32 c2, .slice p3 4 c3] 30)).heap.size := Nat.lt_of_lt_of_le hg1 hb.size
  have z2 : g2 < (((w.alloc (.cells (bc R) 23)).alloc (.cells (bc e) 23)).alloc (.cells #[.int .i64 (x : Int), .slice (some ⟨g1, o1, none⟩) 32 c1, .slice (some ⟨g2, o2, none⟩) 32 c2, .slice p3 4 c3] 30)).heap.size := Nat.lt_of_lt_of_le hg2 hb.size
  have HT := hide (tabs.below hb (Nat.le_refl _))
  clear hkk hRl hTl hans tabs hPl hOl hds bP bO hD hg1 hg2
  obtain ⟨X, hX⟩ : ∃ X, ((w.alloc (.cells (bc R) 23)).alloc (.cells (bc e) 23)).alloc (.cells #[.int .i64 (x : Int), .slice (some ⟨g1, o1, none⟩) 32 c1, .slice (some ⟨g2, o2, none⟩) 32 c2, .slice p3 4 c3] 30) = X := ⟨_, rfl⟩
  rw [hX] at q0 q1 q2 hb u1 u2 u3 HT z1 z2
  have Z1 := hide z1
  have Z2 := hide z2
  clear z1 z2
  have HX := hide hX
  have zX := (Array.getElem?_eq_some_iff.1 q2).1
  have k0 : X.cell? ⟨w.heap.size + 1 + 1, 0, none⟩ = some (.int .i64 (x : Int)) := cell_of_row _ _ _ _ _ _ q2
  have k1 : X.cell? ⟨w.heap.size + 1 + 1, 1, none⟩ = some (.slice (some ⟨g1, o1, none⟩) 32 c1) := cell_of_row _ _ _ _ _ _ q2
  have k2 : X.cell? ⟨w.heap.size + 1 + 1, 2, none⟩ = some (.slice (some ⟨g2, o2, none⟩) 32 c2) := cell_of_row _ _ _ _ _ _ q2
  have k3 : X.cell? ⟨w.heap.size + 1 + 1, 3, none⟩ = some (.slice p3 4 c3) := cell_of_row _ _ _ _ _ _ q2
  clear hX
  go_enter Tryd.func29, Tryd.ntmps29
  go_wp2_with (rw [unhide HX])
  refine (unhide hk _).mono ?_
  rintro en w1 ⟨rfl, h1⟩
  rw [h1]
  clear h1
  go_wp2_with (refine wpList_load_row rfl 23 (.tmp 6) rfl (w.heap.size + 1) rfl 23 _ (0, 0) _ q1 Tryd.underlying23 rfl hid ?_)
  refine (unhide co _ (unhide Z1) (unhide Z2) (unhide u1) (unhide u2) (unhide HT)).mono ?_
  rintro en w2 ⟨rfl, b2⟩
  have z2 := b2.size
  have bW2 : Below w.heap.size w w2 := hb.trans (b2.mono hb.size)
  go_wp2_with (refine wpList_store_new rfl 23 (.tmp 9) (.tmp 29) rfl w2 _ _ WD rfl rfl hiW hzW ?_; intro w3 q9 b3 z3)
  have b13 : Below X.heap.size X w3 := b2.trans (b3.mono z2)
  have bW3 : Below w.heap.size w w3 := bW2.trans (b3.mono bW2.size)
  have p0 := Below.at b13 (Array.getElem?_eq_some_iff.1 q0).1 q0
  have p2 := Below.at b13 zX q2
  have D3 := hide ((unhide u3).below b13 (Nat.le_refl _))
  have t3 := (unhide HT).below b13 (Nat.le_refl _)
  have zp2 := (Array.getElem?_eq_some_iff.1 p2).1
  obtain ⟨K, hK⟩ : ∃ K, w2.heap.size = K := ⟨_, rfl⟩
  rw [hK] at q9
  rw [hK]
  have R0 : Hid (∀ w', (∃ p : Regrown, w' = Sort.grow (redrawn w3 p.d) p.os) → w'.heap[w.heap.size]? = some (.cells (bc R) 23 (0, 0))) := fun w' ⟨p, hp⟩ => by rw [hp]; exact Below.at (below_regrown w3 p.d p.os) (Array.getElem?_eq_some_iff.1 p0).1 p0
  have R9 : Hid (∀ w', (∃ p : Regrown, w' = Sort.grow (redrawn w3 p.d) p.os) → w'.heap[K]? = some (.cells (bc WD) 23 (0, 0))) := fun w' ⟨p, hp⟩ => by rw [hp]; exact Below.at (below_regrown w3 p.d p.os) (Array.getElem?_eq_some_iff.1 q9).1 q9
  have d0 : ∀ d os, (Sort.grow (redrawn w3 d) os).cell? ⟨w.heap.size + 1 + 1, 0, none⟩ = some (.int .i64 (x : Int)) := fun d os => by
    rw [(below_regrown w3 d os).cell (p := ⟨w.heap.size + 1 + 1, 0, none⟩) zp2]; exact cell_of_row _ _ _ _ _ _ p2
  have d3 : ∀ d os, (Sort.grow (redrawn w3 d) os).cell? ⟨w.heap.size + 1 + 1, 3, none⟩ = some (.slice p3 4 c3) := fun d os => by
    rw [(below_regrown w3 d os).cell (p := ⟨w.heap.size + 1 + 1, 3, none⟩) zp2]; exact cell_of_row _ _ _ _ _ _ p2
  have kC := hide fun d os => Calls.regrown_of (w := w3) (d := d) (os := os) (unhide cc _ ((unhide D3).below (below_regrown w3 d os) (Nat.le_refl _)) (t3.below (below_regrown w3 d os) (Nat.le_refl _)))
  clear k0 k1 k2 k3 q0 q1 q2 q9 p0 p2 D3 t3 b2 b3 b13 z2 z3 hK zp2 zX bW2
  go_wp2_with fail
  refine wp_region_below mixed (by kernel_rfl) ?_
  quiet_step (fail)
  quiet_step (fail)
  quiet_step (fail)
  refine wpQuiet_load_row rfl 23 (.tmp 9) rfl K rfl 23 _ (0, 0) _ (unhide R9) Tryd.underlying23 rfl hiW ?_
  quiet_step (fail)
  quiet_step (fail)
  quiet_step (fail)
  quiet_step (fail)
  quiet_step (exact unhide kC _ _)
  refine wpQuiet_load_row rfl 23 (.tmp 5) rfl w.heap.size rfl 23 _ (0, 0) _ (unhide R0) Tryd.underlying23 rfl hiR ?_
  refine wpQuiet_eql rfl 23 23 (.tmp 39) (.tmp 40) rfl _ _ rfl rfl (by kernel_rfl) ans (unhide heq) ?_
  quiet_step (fail)
  repeat (quiet_step (fail))
  refine wpQuiet_nil ?_
  intro w4 b4
  go_wp2
  go_ret
  exact ⟨rfl, bW3.trans (b4.mono bW3.size)⟩
end Go.Proofs.YtlicadfbkjhihaaDoor

namespace Go.Proofs.YtlicadfbkjhihaaDoor
open Go Go.RowKit
set_option linter.unusedSimpArgs false
set_option linter.unusedVariables false

set_option maxHeartbeats 1000000 in
set_option maxRecDepth 100000 in
theorem openedN_calls (d : List UInt8) (hd : d.length = 32) (n1 n2 : Nat) (hn : n1 ≠ 32 ∨ n2 ≠ 32) (p1 p2 : Option Addr) (c1 c2 : Nat) (w : World) :
    Calls Tryd.prog 44 #[.pointer none, .agg (bc d), .slice p1 n1 c1, .slice p2 n2 c2] w fun e w' => e = .returned (.tuple #[.agg (bc (List.replicate 32 0)), .bool false]) ∧ Below w.heap.size w w' := by
  obtain ⟨q0, q1⟩ := al2 w (.cells (bc d) 23) (.cells (bc (List.replicate 32 0)) 23)
  have b0 := bel2 w (.cells (bc d) 23) (.cells (bc (List.replicate 32 0)) 23)
  have hz : (List.replicate 32 (0 : UInt8)).length = 32 := by simp
  have hi1 := digInfo (List.replicate 32 0) hz
  have hz1 := zeroSize (List.replicate 32 0) hz
  have ho1 := bc_oneCell (List.replicate 32 0)
  have hbu : Tryd.prog.built 23 [] = some (bc (List.replicate 32 0)) := by kernel_rfl
  obtain ⟨X, hX⟩ : ∃ X, (w.alloc (.cells (bc d) 23)).alloc (.cells (bc (List.replicate 32 0)) 23) = X := ⟨_, rfl⟩
  rw [hX] at q1 b0
  have HX := hide hX
  generalize hZ : bc (List.replicate 32 0) = Z at *
  have HZ := hide hZ
  have HBU := hide hbu
  clear q0 hX hz hZ hbu
  by_cases h1 : n1 = 32
  · have h2 : n2 ≠ 32 := by omega
    subst h1
    have d2 : ((n2 : Int) == 32) = false := by simp; omega
    clear hn h2
    go_enter Tryd.func44, Tryd.ntmps44
    go_upto_region 1 with fail
    change Code.wp _ _ _ _ ((w.alloc (.cells (bc d) 23)).alloc (.cells (bc (List.replicate 32 0)) 23))
    rw [unhide HZ, unhide HX]
    go_wp2_with (first
      | (refine wpList_build_to rfl 23 #[] rfl Z (unhide HBU) ?_)
      | (refine wpList_store_row rfl 23 (.tmp 8) (.tmp 21) rfl (w.heap.size + 1) Z rfl rfl 23 _ q1 hi1 hz1 ho1 ?_))
    exact bodyPost_ret (results_row_tmp rfl _ _ (w.heap.size + 1) _ _ _ _ rfl (setRow_heap _ _ _ _ _ _ q1) Tryd.underlying23 rfl hi1) rfl ⟨rfl, below_setRow b0 (by omega) _⟩
  · have d1 : ((n1 : Int) == 32) = false := by simp; omega
    clear hn h1
    go_enter Tryd.func44, Tryd.ntmps44
    go_upto_region 1 with fail
    change Code.wp _ _ _ _ ((w.alloc (.cells (bc d) 23)).alloc (.cells (bc (List.replicate 32 0)) 23))
    rw [unhide HZ, unhide HX]
    go_wp2_with (first
      | (refine wpList_build_to rfl 23 #[] rfl Z (unhide HBU) ?_)
      | (refine wpList_store_row rfl 23 (.tmp 8) (.tmp 21) rfl (w.heap.size + 1) Z rfl rfl 23 _ q1 hi1 hz1 ho1 ?_))
    exact bodyPost_ret (results_row_tmp rfl _ _ (w.heap.size + 1) _ _ _ _ rfl (setRow_heap _ _ _ _ _ _ q1) Tryd.underlying23 rfl hi1) rfl ⟨rfl, below_setRow b0 (by omega) _⟩
set_option maxHeartbeats 1000000 in
set_option maxRecDepth 100000 in
/-- An Index of no key, or a path of another length. -/
theorem verify_bad1 (root e : List UInt8) (hR : root.length = 32) (he : e.length = 32) (x : Int) (n1 n2 n3 c1 c2 c3 : Nat) (p1 p2 p3 : Option Addr) (hbad : ¬ (0 ≤ x ∧ x < 16) ∨ n3 ≠ 4) (w : World) :
    Calls Tryd.prog 29 #[.pointer none, .agg (bc root), .agg (bc e), .agg #[.int .i64 x, .slice p1 n1 c1, .slice p2 n2 c2, .slice p3 n3 c3]] w fun en w' => en = .returned (.bool false) ∧ Below w.heap.size w w' := by
  have hk := hide fun W => isKey_calls x W
  obtain ⟨q0, q1, q2⟩ := al3 w (.cells (bc root) 23) (.cells (bc e) 23) (.cells #[.int .i64 x, .slice p1 n1 c1, .slice p2 n2 c2, .slice p3 n3 c3] 30)
  have hb := bel3 w (.cells (bc root) 23) (.cells (bc e) 23) (.cells #[.int .i64 x, .slice p1 n1 c1, .slice p2 n2 c2, .slice p3 n3 c3] 30)
  obtain ⟨X, hX⟩ : ∃ X, ((w.alloc (.cells (bc root) 23)).alloc (.cells (bc e) 23)).alloc (.cells #[.int .i64 x, .slice p1 n1 c1, .slice p2 n2 c2, .slice p3 n3 c3] 30) = X := ⟨_, rfl⟩
  rw [hX] at q2 hb
  have HX := hide hX
  have k0 : X.cell? ⟨w.heap.size + 1 + 1, 0, none⟩ = some (.int .i64 x) := cell_of_row _ _ _ _ _ _ q2
  have k3 : X.cell? ⟨w.heap.size + 1 + 1, 3, none⟩ = some (.slice p3 n3 c3) := cell_of_row _ _ _ _ _ _ q2
  clear hX q0 q1 q2 hR he
  by_cases hx : 0 ≤ x ∧ x < 16
  · have hn3 : n3 ≠ 4 := by
      rcases hbad with h | h
      · exact absurd hx h
      · exact h
    have hkk : (if (0 : Int) ≤ x then decide (x < 16) else false) = true := by rw [if_pos hx.1]; simp; exact hx.2
    rw [hkk] at hk
    have hd : ((n3 : Int) == 4) = false := by simp; omega
    clear hbad hx hn3 hkk
    go_enter Tryd.func29, Tryd.ntmps29
    go_wp2_with (rw [unhide HX])
    refine (unhide hk _).mono ?_
    rintro en w1 ⟨rfl, h1⟩
    rw [h1]
    clear h1
    go_wp2
    go_ret
    exact ⟨rfl, hb⟩
  · have hkk : (if (0 : Int) ≤ x then decide (x < 16) else false) = false := by
      split
      · simp; omega
      · rfl
    rw [hkk] at hk
    clear hbad hx hkk
    go_enter Tryd.func29, Tryd.ntmps29
    go_wp2_with (rw [unhide HX])
    refine (unhide hk _).mono ?_
    rintro en w1 ⟨rfl, h1⟩
    rw [h1]
    clear h1
    go_wp2
    go_ret
    exact ⟨rfl, hb⟩
set_option maxHeartbeats 1000000 in
set_option maxRecDepth 100000 in
/-- Another number of parts. -/
theorem verify_bad2 (root e : List UInt8) (hR : root.length = 32) (he : e.length = 32) (x : Int) (hx0 : 0 ≤ x) (hx1 : x < 16) (n1 n2 c1 c2 c3 : Nat) (p1 p2 p3 : Option Addr) (hn : n1 ≠ 32 ∨ n2 ≠ 32) (w : World) :
    Calls Tryd.prog 29 #[.pointer none, .agg (bc root), .agg (bc e), .agg #[.int .i64 x, .slice p1 n1 c1, .slice p2 n2 c2, .slice p3 4 c3]] w fun en w' => en = .returned (.bool false) ∧ Below w.heap.size w w' := by
  have hid := digInfo e he
  have hk := hide fun W => isKey_calls x W
  have co := hide fun W => openedN_calls e he n1 n2 hn p1 p2 c1 c2 W
  obtain ⟨ZD, hZD⟩ : ∃ Z, List.replicate 32 (0 : UInt8) = Z := ⟨_, rfl⟩
  have hz : ZD.length = 32 := by rw [← hZD]; simp
  have hiW := digInfo ZD hz
  have hzW := zeroSize ZD hz
  rw [hZD] at co
  obtain ⟨q0, q1, q2⟩ := al3 w (.cells (bc root) 23) (.cells (bc e) 23) (.cells #[.int .i64 x, .slice p1 n1 c1, .slice p2 n2 c2, .slice p3 4 c3] 30)
  have hb := bel3 w (.cells (bc root) 23) (.cells (bc e) 23) (.cells #[.int .i64 x, .slice p1 n1 c1, .slice p2 n2 c2, .slice p3 4 c3] 30)
  obtain ⟨X, hX⟩ : ∃ X, ((w.alloc (.cells (bc root) 23)).alloc (.cells (bc e) 23)).alloc (.cells #[.int .i64 x, .slice p1 n1 c1, .slice p2 n2 c2, .slice p3 4 c3] 30) = X := ⟨_, rfl⟩
  rw [hX] at q1 q2 hb
  have HX := hide hX
  have k0 : X.cell? ⟨w.heap.size + 1 + 1, 0, none⟩ = some (.int .i64 x) := cell_of_row _ _ _ _ _ _ q2
  have k1 : X.cell? ⟨w.heap.size + 1 + 1, 1, none⟩ = some (.slice p1 n1 c1) := cell_of_row _ _ _ _ _ _ q2
  have k2 : X.cell? ⟨w.heap.size + 1 + 1, 2, none⟩ = some (.slice p2 n2 c2) := cell_of_row _ _ _ _ _ _ q2
  have k3 : X.cell? ⟨w.heap.size + 1 + 1, 3, none⟩ = some (.slice p3 4 c3) := cell_of_row _ _ _ _ _ _ q2
  have hkk : (if (0 : Int) ≤ x then decide (x < 16) else false) = true := by rw [if_pos hx0]; simp; exact hx1
  rw [hkk] at hk
  clear hX q0 q2 hR he hx0 hx1 hn hkk hz hZD
  go_enter Tryd.func29, Tryd.ntmps29
  go_wp2_with (rw [unhide HX])
  refine (unhide hk _).mono ?_
  rintro en w1 ⟨rfl, h1⟩
  rw [h1]
  clear h1
  go_wp2_with (refine wpList_load_row rfl 23 (.tmp 6) rfl (w.heap.size + 1) rfl 23 _ (0, 0) _ q1 Tryd.underlying23 rfl hid ?_)
  refine (unhide co _).mono ?_
  rintro en w2 ⟨rfl, b2⟩
  have bW2 : Below w.heap.size w w2 := hb.trans (b2.mono hb.size)
  clear k0 k1 k2 k3 q1 b2 hb
  go_wp2_with (refine wpList_store_new rfl 23 (.tmp 9) (.tmp 29) rfl w2 _ _ ZD rfl rfl hiW hzW ?_; intro w3 q9 b3 z3)
  have bW3 : Below w.heap.size w w3 := bW2.trans (b3.mono bW2.size)
  clear b3 bW2 q9 z3
  go_wp2_with fail
  refine wp_region_below mixed (by kernel_rfl) ?_
  quiet_step (fail)
  quiet_step (fail)
  repeat (go_big_quiet_step (fail))
  refine wpQuiet_nil ?_
  intro w4 b4
  go_wp2
  go_ret
  exact ⟨rfl, bW3.trans (b4.mono bW3.size)⟩
end Go.Proofs.YtlicadfbkjhihaaDoor

namespace Go.Proofs.YtlicadfbkjhihaaDoor
open Go.RowKit
set_option linter.unusedSimpArgs false
set_option linter.unusedVariables false

/-- A list of digests in memory: their bytes. -/
def Digs (w : World) (v : Value) (l : List UInt8) : Prop :=
  ∃ p n cap, v = .slice p n cap ∧ l.length = 32 * n ∧ (0 < n → ∃ b off, p = some ⟨b, off, none⟩ ∧ b < w.heap.size ∧ Bytes w b off l)
theorem Digs.below {w w' : World} {v : Value} {l : List UInt8} (h : Digs w v l) (hb : Below w.heap.size w w') : Digs w' v l := by
  obtain ⟨p, n, cap, rfl, hl, hp⟩ := h
  refine ⟨p, n, cap, rfl, hl, fun hn => ?_⟩
  obtain ⟨b, off, rfl, hlt, hby⟩ := hp hn
  exact ⟨b, off, rfl, Nat.lt_of_lt_of_le hlt hb.size, hby.below hb hlt⟩
/-- A new row of digests. -/
theorem digs_row {w : World} {b k : Nat} {l : List UInt8} {t : TypeId} (hl : l.length = 32 * k) (h : w.heap[b]? = some (.cells (bc l) t (0, 0))) : Digs w (.slice (some ⟨b, 0, none⟩) k k) l :=
  ⟨_, _, _, rfl, hl, fun _ => ⟨b, 0, rfl, (Array.getElem?_eq_some_iff.1 h).1, fun j hj => by rw [Nat.zero_add, cell_of_row _ _ _ _ _ _ h]; exact bc_at _ _ hj⟩⟩

end Go.Proofs.YtlicadfbkjhihaaDoor

namespace Go.Proofs.YtlicadfbkjhihaaDoor
open Go Go.RowKit
set_option linter.unusedSimpArgs false
set_option linter.unusedVariables false

def chunks4 (Q : List UInt8) : List (List UInt8) := (List.range 4).map (chunk Q)
theorem chunks4_length (Q : List UInt8) : (chunks4 Q).length = 4 := by simp [chunks4]
/-- Whether a signature is one of a digest under a root. -/
def pVer (root e : List UInt8) (x : Int) (n1 n2 n3 : Nat) (P O Q : List UInt8) : Bool :=
  if (0 ≤ x ∧ x < 16) ∧ n3 = 4 then (if n1 = 32 ∧ n2 = 32 then decide (kClimb (pWordOf (pOpen e P O 32)) x.toNat (chunks4 Q) 4 = root) else false) else false
theorem DL_of_digs {w : World} {p : Option Addr} {c : Nat} {Q : List UInt8} (h : Digs w (.slice p 4 c) Q) : DL w p (chunks4 Q) := by
  obtain ⟨p', n, cap, e, hl, hp⟩ := h
  simp only [Value.slice.injEq] at e
  obtain ⟨rfl, rfl, rfl⟩ := e
  obtain ⟨b, off, rfl, hlt, hb⟩ := hp (by omega)
  refine ⟨fun d hd => ?_, fun _ => ⟨b, off, rfl, hlt, fun i hi => ?_⟩⟩
  · obtain ⟨j, hj, rfl⟩ := List.mem_map.1 hd
    exact chunk_length Q j (by have := List.mem_range.1 hj; omega)
  · have hi4 : i < 4 := by simpa [chunks4] using hi
    have e1 : (chunks4 Q).getD i [] = chunk Q i := by simp [chunks4, hi4]
    rw [e1]
    exact bytes_range hb i (by omega)
theorem digs_32 {w : World} {p : Option Addr} {c : Nat} {P : List UInt8} (h : Digs w (.slice p 32 c) P) : P.length = 1024 ∧ ∃ b off, p = some ⟨b, off, none⟩ ∧ b < w.heap.size ∧ Bytes w b off P := by
  obtain ⟨p', n, cap, e, hl, hp⟩ := h
  simp only [Value.slice.injEq] at e
  obtain ⟨rfl, rfl, rfl⟩ := e
  exact ⟨by omega, hp (by omega)⟩
theorem verifyX_calls (root e : List UInt8) (hR : root.length = 32) (he : e.length = 32) (x : Int) (p1 p2 p3 : Option Addr) (n1 n2 n3 c1 c2 c3 : Nat) (P O Q : List UInt8) (w : World) (D1 : Digs w (.slice p1 n1 c1) P) (D2 : Digs w (.slice p2 n2 c2) O) (D3 : Digs w (.slice p3 n3 c3) Q) (tabs : Tabs w) :
    Calls Tryd.prog 29 #[.pointer none, .agg (bc root), .agg (bc e), .agg #[.int .i64 x, .slice p1 n1 c1, .slice p2 n2 c2, .slice p3 n3 c3]] w fun en w' => en = .returned (.bool (pVer root e x n1 n2 n3 P O Q)) ∧ Below w.heap.size w w' := by
  unfold pVer
  by_cases h : (0 ≤ x ∧ x < 16) ∧ n3 = 4
  · rw [if_pos h]
    obtain ⟨⟨h0, h1⟩, rfl⟩ := h
    by_cases h2 : n1 = 32 ∧ n2 = 32
    · rw [if_pos h2]
      obtain ⟨rfl, rfl⟩ := h2
      obtain ⟨l1, b1, o1, rfl, z1, B1⟩ := digs_32 D1
      obtain ⟨l2, b2, o2, rfl, z2, B2⟩ := digs_32 D2
      obtain ⟨k, rfl⟩ := Int.eq_ofNat_of_zero_le h0
      exact verify_good root e hR he k (by omega) P O l1 l2 (chunks4 Q) (chunks4_length Q) b1 o1 c1 b2 o2 c2 p3 c3 w z1 z2 B1 B2 (DL_of_digs D3) tabs
    · rw [if_neg h2]
      exact verify_bad2 root e hR he x h0 h1 n1 n2 c1 c2 c3 p1 p2 p3 (by omega) w
  · rw [if_neg h]
    exact verify_bad1 root e hR he x n1 n2 n3 c1 c2 c3 p1 p2 p3 (by omega) w
end Go.Proofs.YtlicadfbkjhihaaDoor

namespace Go.Proofs.YtlicadfbkjhihaaDoor
open Go Go.RowKit
set_option linter.unusedSimpArgs false
set_option linter.unusedVariables false

theorem Buf.belowV {W w w' : World} {B : Nat} {l : List UInt8} {v : Value} (h : Buf W B l v w) (hb : Below w.heap.size w w') : Buf W B l v w' := by
  obtain ⟨⟨h1, h2⟩, h3, h4⟩ := h
  refine ⟨⟨h1, ?_⟩, h3.trans (hb.mono h4), Nat.le_trans h4 hb.size⟩
  rcases h2 with h2 | ⟨g, cap, cur, fz, rfl, hB, hg, hr⟩
  · exact .inl h2
  · exact .inr ⟨g, cap, cur, fz, rfl, hB, Below.at hb (Array.getElem?_eq_some_iff.1 hg).1 hg, hr⟩
set_option maxHeartbeats 4000000 in
set_option maxRecDepth 100000 in
theorem ropened_calls (d : List UInt8) (hd : d.length = 32) (P O : List UInt8) (hP : P.length = 1024) (hO : O.length = 1024) (g1 o1 c1 g2 o2 c2 : Nat) (w : World) (hg1 : g1 < w.heap.size) (hg2 : g2 < w.heap.size) (bP : Bytes w g1 o1 P) (bO : Bytes w g2 o2 O) :
    Calls Tryd.prog 46 #[.pointer none, .agg (bc d), .slice (some ⟨g1, o1, none⟩) 32 c1, .slice (some ⟨g2, o2, none⟩) 32 c2] w fun e w' => e = .returned (.tuple #[.agg (bc (pWordOf (pOpen d P O 32))), .bool true]) ∧ Below w.heap.size w w' := by
  have hLL : (pOpen d P O 32).length = 2048 := pOpen_length d P O 32 (by omega)
  have hW : (pWordOf (pOpen d P O 32)).length = 32 := pOf_length _ _
  have hi1 := digInfo (pWordOf (pOpen d P O 32)) hW
  have hz1 := zeroSize (pWordOf (pOpen d P O 32)) hW
  have ho1 := bc_oneCell (pWordOf (pOpen d P O 32))
  have hi0 := digInfo d hd
  have CO := hide (fun g w hs => rofNil_calls 3 (by decide) [pOpen d P O 32] (by simp; omega) (by simp) (some ⟨g, 0, none⟩) 1 w hs)
  have e2 : pOf 3 [pOpen d P O 32] = pWordOf (pOpen d P O 32) := rfl
  rw [e2] at CO
  have CB := hide (fun i hi w => rbit_calls d hd i hi w)
  have HLen := hide (fun k hk => pOpen_length d P O k hk)
  have HSucc := hide (pOpen_succ d P O)
  generalize pWordOf (pOpen d P O 32) = D at *
  have HbP := hide bP
  have HbO := hide bO
  obtain ⟨q0, q1⟩ := al2 w (.cells (bc d) 23) (.cells (bc (List.replicate 32 0)) 23)
  have b0 := bel2 w (.cells (bc d) 23) (.cells (bc (List.replicate 32 0)) 23)
  have sX : ((w.alloc (.cells (bc d) 23)).alloc (.cells (bc (List.replicate 32 0)) 23)).heap.size = w.heap.size + 1 + 1 := by simp
  obtain ⟨X, hX⟩ : ∃ X, (w.alloc (.cells (bc d) 23)).alloc (.cells (bc (List.replicate 32 0)) 23) = X := ⟨_, rfl⟩
  rw [hX] at q0 q1 b0 sX
  have HX := hide hX
  have HSX := hide sX
  have HB0 := hide b0
  have HQ0 := hide q0
  have HQ1 := hide q1
  clear e2 bP bO hX sX b0 q0 q1 hLL
  go_enter Tryd.func46, Tryd.ntmps46
  go_upto_region 1 with fail
  change Code.wp _ _ _ _ ((w.alloc (.cells (bc d) 23)).alloc (.cells (bc (List.replicate 32 0)) 23))
  rw [unhide HX]
  go_wp2
  go_loopw [10, 11] (fun v i wr => ∃ k : Nat, k ≤ 32 ∧ i = .int .i64 (k : Int) ∧ Buf X X.heap.size (pOpen d P O k) v wr) (fun _ i _ => 32 - (intOf i).toNat)
  case atStart => exact ⟨0, by omega, rfl, World.ownsRowF_nil _ _ _ _, Below.refl _ _, Nat.le_refl _⟩
  case round =>
    obtain ⟨k, hk, rfl, hbuf⟩ := hrel
    have hbX : Below X.heap.size X wr := hbuf.2.1
    have hw : Below w.heap.size w wr := (unhide HB0).trans (hbX.mono (by have := unhide HSX; omega))
    have p0 := Below.at hbX (by have := unhide HSX; omega) (unhide HQ0)
    have hl := unhide HLen k (by omega)
    by_cases hlt : k < 32
    · have hd1 : decide ((k : Int) < 32) = true := by simp; omega
      have bk : (0 : Int) ≤ k ∧ (k : Int) < 32 := by omega
      have hcl1 := chunk_length P k (by omega)
      have hcl2 := chunk_length O k (by omega)
      have hs1 := unhide HSucc k
      have cP := hide (fun w => rpublic_calls (chunk P k) hcl1 w)
      have hpl : (pPublic (chunk P k)).length = 32 := pPublic_length _
      have cY := hide (fun w => rbytes_calls (pPublic (chunk P k)) hpl w)
      have cZ := hide (fun w => rbytes_calls (chunk O k) hcl2 w)
      have hiP : (Tryd.prog.info? 23).map (·.size) = some (Lib.byteCells (chunk P k)).length := by rw [Lib.byteCells_length, hcl1]; kernel_rfl
      have hiO : (Tryd.prog.info? 23).map (·.size) = some (Lib.byteCells (chunk O k)).length := by rw [Lib.byteCells_length, hcl2]; kernel_rfl
      have gX1 : g1 < X.heap.size := by have := unhide HSX; omega
      have gX2 : g2 < X.heap.size := by have := unhide HSX; omega
      have RP := hide (bytes_range ((unhide HbP).below (unhide HB0) hg1) k (by omega))
      have RO := hide (bytes_range ((unhide HbO).below (unhide HB0) hg2) k (by omega))
      have zX0 : w.heap.size < X.heap.size := by have := unhide HSX; omega
      have cB := hide (fun w => unhide CB k (by omega) w)
      have e0 : openAt d P O k = if pBit d k = 0 then pPublic (chunk P k) ++ chunk O k else chunk O k ++ pPublic (chunk P k) := rfl
      rw [e0] at hs1
      have hbt := pBit_lt d k
      have hs1h := hide hs1
      have hlh := hide hl
      obtain ⟨A, hA⟩ : ∃ A, pOpen d P O k = A := ⟨_, rfl⟩
      rw [hA] at hbuf hs1h hlh
      generalize pPublic (chunk P k) = PD at *
      generalize chunk P k = PC at *
      generalize chunk O k = OC at *
      have hbuf' := hide hbuf
      clear e0 hs1 hl hA hbX
      by_cases hbit : pBit d k = 0
      · rw [hbit] at cB
        rw [if_pos hbit] at hs1h
        clear hbit hbt hbuf p0 hw
        have rP := rangeAt_below (unhide RP) (unhide hbuf').2.1 gX1
        go_wp2_with (refine wpList_load_mid_gv rfl 23 (.tmp 29) rfl g1 (o1 + k * 32) rfl (Lib.byteCells PC) _ rP Tryd.underlying23 rfl hiP ?_)
        refine (unhide cP _).mono ?_
        rintro e w1 ⟨rfl, d1⟩
        have u1 := hide ((unhide hbuf').belowV d1)
        clear rP d1
        go_wp2_with fail
        refine (unhide cY _).mono ?_
        rintro e w2 ⟨rfl, d2⟩
        have u2 := hide ((unhide u1).belowV d2)
        have p2 := Below.at (unhide u2).2.1 zX0 (unhide HQ0)
        clear d2
        go_wp2_with (refine wpList_load_row rfl 23 (.tmp 5) rfl w.heap.size rfl 23 _ (0, 0) _ p2 Tryd.underlying23 rfl hi0 ?_)
        refine (unhide cB _).mono ?_
        rintro e w3 ⟨rfl, d3⟩
        have u3 := hide ((unhide u2).belowV d3)
        clear p2 d3
        go_wp2_with (first
          | (at_builtin; (refine wpList_append_s rfl (.tmp 37) (.tmp 38) rfl X X.heap.size (A) _ rfl PD (unhide u3) rfl (by (try simp only [List.length_append]); have := unhide hlh; omega) ?_); intro v4 w4 yw4)
          | (refine wpList_load_mid_gv rfl 23 (.tmp 43) rfl g2 (o2 + k * 32) rfl (Lib.byteCells OC) _ (rangeAt_below (unhide RO) yw4.2.1 gX2) Tryd.underlying23 rfl hiO ?_))
        refine (unhide cZ _).mono ?_
        rintro e w5 ⟨rfl, d5⟩
        have u5 := hide (yw4.belowV d5)
        clear d5
        go_wp2_with (at_builtin; (refine wpList_append_s rfl (.tmp 40) (.tmp 45) rfl X X.heap.size (A ++ PD) _ rfl OC (unhide u5) rfl (by (try simp only [List.length_append]); have := unhide hlh; omega) ?_); intro v6 w6 yw6)
        go_roundw
        case rel => exact ⟨k + 1, by omega, by go_num, by rw [unhide hs1h, ← List.append_assoc]; exact yw6⟩
        case measure => simp [intOf]; omega
      · have hb1 : pBit d k = 1 := by omega
        rw [hb1] at cB
        rw [if_neg hbit] at hs1h
        clear hbit hbt hbuf p0 hw hb1
        have rP := rangeAt_below (unhide RP) (unhide hbuf').2.1 gX1
        go_wp2_with (refine wpList_load_mid_gv rfl 23 (.tmp 29) rfl g1 (o1 + k * 32) rfl (Lib.byteCells PC) _ rP Tryd.underlying23 rfl hiP ?_)
        refine (unhide cP _).mono ?_
        rintro e w1 ⟨rfl, d1⟩
        have u1 := hide ((unhide hbuf').belowV d1)
        clear rP d1
        go_wp2_with fail
        refine (unhide cY _).mono ?_
        rintro e w2 ⟨rfl, d2⟩
        have u2 := hide ((unhide u1).belowV d2)
        have p2 := Below.at (unhide u2).2.1 zX0 (unhide HQ0)
        clear d2
        go_wp2_with (refine wpList_load_row rfl 23 (.tmp 5) rfl w.heap.size rfl 23 _ (0, 0) _ p2 Tryd.underlying23 rfl hi0 ?_)
        refine (unhide cB _).mono ?_
        rintro e w3 ⟨rfl, d3⟩
        have u3 := hide ((unhide u2).belowV d3)
        clear p2 d3
        have rO := rangeAt_below (unhide RO) (unhide u3).2.1 gX2
        go_wp2_with (refine wpList_load_mid_gv rfl 23 (.tmp 50) rfl g2 (o2 + k * 32) rfl (Lib.byteCells OC) _ rO Tryd.underlying23 rfl hiO ?_)
        refine (unhide cZ _).mono ?_
        rintro e w5 ⟨rfl, d5⟩
        have u5 := hide ((unhide u3).belowV d5)
        clear d5 rO
        go_wp2_with (first
          | (at_builtin; (refine wpList_append_s rfl (.tmp 47) (.tmp 52) rfl X X.heap.size (A) _ rfl OC (unhide u5) rfl (by (try simp only [List.length_append]); have := unhide hlh; omega) ?_); intro v6 w6 yw6)
          | (at_builtin; (refine wpList_append_s rfl (.tmp 54) (.tmp 55) rfl X X.heap.size (A ++ OC) _ rfl PD yw6 rfl (by (try simp only [List.length_append]); have := unhide hlh; omega) ?_); intro v7 w7 yw7))
        go_roundw
        case rel => exact ⟨k + 1, by omega, by go_num, by rw [unhide hs1h, ← List.append_assoc]; exact yw7⟩
        case measure => simp [intOf]; omega
    · have hd1 : decide ((k : Int) < 32) = false := by simp; omega
      have hk32 : k = 32 := by omega
      subst hk32
      have hcv := hbuf.convert
      have q1 := Below.at hbX (by have := unhide HSX; omega) (unhide HQ1)
      have z1 : w.heap.size + 1 < wr.heap.size := (Array.getElem?_eq_some_iff.1 q1).1
      have HBuf := hide hbuf
      generalize pOpen d P O 32 = L at *
      clear hbuf hbX p0 hl
      go_wp2_with fail
      refine (unhide CO _ _ (strsAt_one wr L _)).mono ?_
      rintro e w3 ⟨rfl, b3⟩
      have q3 := Below.at b3 (by simp; omega) ((Below.heap_alloc wr (.cells #[.string (str L)] 9) _ z1).trans q1)
      have hb3 : Below w.heap.size w w3 := (hw.alloc hw.size _).trans (b3.mono (by simp; have := hw.size; omega))
      clear b3 q1 hw hcv
      go_wp2_with (refine wpList_store_row rfl 23 (.tmp 8) (.tmp 61) rfl (w.heap.size + 1) _ rfl rfl 23 _ q3 hi1 hz1 ho1 ?_)
      exact bodyPost_ret (results_row_tmp rfl _ _ (w.heap.size + 1) _ _ _ _ rfl (setRow_heap _ _ _ _ _ _ q3) Tryd.underlying23 rfl hi1) rfl ⟨rfl, below_setRow hb3 (by omega) _⟩
end Go.Proofs.YtlicadfbkjhihaaDoor

namespace Go.Proofs.YtlicadfbkjhihaaDoor
open Go.RowKit
set_option linter.unusedSimpArgs false
set_option linter.unusedVariables false

theorem strsAt_rpair (w : World) (l0 l1 : List UInt8) (t : TypeId) : StrsAt (w.alloc (.cells #[.string (str l0), .string (str l1)] t)) (some ⟨w.heap.size, 0, none⟩) [l0, l1] := by
  refine .inr ⟨w.heap.size, 0, rfl, by simp, fun j hj => ?_⟩
  match j, hj with
  | 0, _ => go_simp
  | 1, _ => go_simp
  | j + 2, hj => simp at hj; omega
set_option maxHeartbeats 2000000 in
set_option maxRecDepth 100000 in
theorem rtwo_calls (dom : Nat) (hdom : dom < 256) (a b : List UInt8) (ha : a.length = 32) (hb : b.length = 32) (w : World) :
    Calls Tryd.prog 66 #[.pointer none, .int .u8 (dom : Int), .agg (bc a), .agg (bc b)] w fun e w' => e = .returned (.agg (bc (pOf dom [a, b]))) ∧ Below w.heap.size w w' := by
  have co := fun g w hs => rofNil_calls dom hdom [a, b] (by simp; omega) (by simp) (some ⟨g, 0, none⟩) 2 w hs
  have hia := digInfo a ha
  have hib := digInfo b hb
  have hi1 := digInfo (pOf dom [a, b]) (pOf_length dom [a, b])
  have hz1 := zeroSize (pOf dom [a, b]) (pOf_length dom [a, b])
  have ho1 := bc_oneCell (pOf dom [a, b])
  have ca := fun w => rbytes_calls a ha w
  have cb := fun w => rbytes_calls b hb w
  generalize pOf dom [a, b] = D at *
  have A3 := hide (al3 w (.cells (bc a) 23) (.cells (bc b) 23) (.cells (bc (List.replicate 32 0)) 23))
  have B3 := hide (bel3 w (.cells (bc a) 23) (.cells (bc b) 23) (.cells (bc (List.replicate 32 0)) 23))
  have S3 : Hid ((((w.alloc (.cells (bc a) 23)).alloc (.cells (bc b) 23)).alloc (.cells (bc (List.replicate 32 0)) 23)).heap.size = w.heap.size + 1 + 1 + 1) := hide (by simp)
  generalize hX : ((w.alloc (.cells (bc a) 23)).alloc (.cells (bc b) 23)).alloc (.cells (bc (List.replicate 32 0)) 23) = X at *
  have HX := hide hX
  have CO := hide co
  have kA : Hid (∀ dd os, Calls Tryd.prog 43 #[.agg (bc a)] (Sort.grow (redrawn X.drew dd) os) fun e w'' => e = .returned (.string (str a)) ∧ ∃ p : Regrown, w'' = Sort.grow (redrawn X.drew p.d) p.os) := fun dd os => Calls.regrown_of (ca _)
  have kB : Hid (∀ dd os, Calls Tryd.prog 43 #[.agg (bc b)] (Sort.grow (redrawn X.drew dd) os) fun e w'' => e = .returned (.string (str b)) ∧ ∃ p : Regrown, w'' = Sort.grow (redrawn X.drew p.d) p.os) := fun dd os => Calls.regrown_of (cb _)
  have dX : Below X.heap.size X X.drew := ⟨rfl, rfl, rfl, Nat.le_refl _, fun _ _ => rfl⟩
  have s3 := unhide S3
  have R0 : Hid (∀ w', (∃ p : Regrown, w' = Sort.grow (redrawn X.drew p.d) p.os) → w'.heap[w.heap.size]? = some (.cells (bc a) 23 (0, 0))) := fun w' ⟨p, hp⟩ => by
    rw [hp]; exact Below.at (below_regrown X.drew p.d p.os) (by show _ < X.heap.size; omega) (unhide A3).1
  have R1 : Hid (∀ w', (∃ p : Regrown, w' = Sort.grow (redrawn X.drew p.d) p.os) → w'.heap[w.heap.size + 1]? = some (.cells (bc b) 23 (0, 0))) := fun w' ⟨p, hp⟩ => by
    rw [hp]; exact Below.at (below_regrown X.drew p.d p.os) (by show _ < X.heap.size; omega) (unhide A3).2.1
  clear co ca cb s3 dX hX
  go_enter Tryd.func66, Tryd.ntmps66
  go_wp2_with fail
  change Code.wp _ _ _ _ (((w.alloc (.cells (bc a) 23)).alloc (.cells (bc b) 23)).alloc (.cells (bc (List.replicate 32 0)) 23))
  rw [unhide HX]
  refine wp_region_any mixed ?_
  change wpAny _ _ _ _ _ _ _ X.drew
  refine wpAny_take (i := 0) rfl (by kernel_rfl) (by kernel_rfl) (by kernel_rfl) (fun _ _ _ h => h) (.inl ⟨rfl, fun _ => rfl⟩) ?_
  refine wpAny_take (i := 1) rfl (by kernel_rfl) (by kernel_rfl) (by kernel_rfl) (fun _ _ _ h => h) (.inl ⟨rfl, fun _ => rfl⟩) ?_
  refine wpAny_below_head 2 6 (by kernel_rfl) ?_
  simp only [List.take_succ_cons, List.take_zero, List.drop_succ_cons, List.drop_zero]
  refine wpQuiet_load_row rfl 23 (.tmp 6) rfl w.heap.size rfl 23 _ (0, 0) _ (unhide R0) Tryd.underlying23 rfl hia ?_
  quiet_step (exact unhide kA _ _)
  refine wpQuiet_load_row rfl 23 (.tmp 7) rfl (w.heap.size + 1) rfl 23 _ (0, 0) _ (unhide R1) Tryd.underlying23 rfl hib ?_
  quiet_step (exact unhide kB _ _)
  refine wpQuiet_nil ?_
  intro w2 hb2
  have hb2' : Below X.heap.size X w2 := ⟨hb2.os, hb2.tape, hb2.output, hb2.size, hb2.block⟩
  have s3 := unhide S3
  have q2 := Below.at hb2' (by omega) (unhide A3).2.2
  have hbw : Below w.heap.size w w2 := (unhide B3).trans (hb2'.mono (by omega))
  have z2 : w.heap.size + 1 + 1 < w2.heap.size := by have := hb2'.size; omega
  have HB := hide hbw
  have Q2 := hide q2
  have Z2 := hide z2
  clear hb2 hb2' s3 q2 hbw z2
  refine wpAny_rest 6 (by kernel_rfl) ?_
  simp only [List.drop_succ_cons, List.drop_zero]
  go_wp2_with fail
  refine (unhide CO _ _ (strsAt_rpair w2 a b _)).mono ?_
  rintro e w3 ⟨rfl, b3⟩
  have q3 := Below.at b3 (by have := unhide Z2; simp; omega) ((Below.heap_alloc w2 (.cells #[.string (str a), .string (str b)] 9) _ (unhide Z2)).trans (unhide Q2))
  have hb3 : Below w.heap.size w w3 := ((unhide HB).alloc (by have := unhide Z2; omega) _).trans (b3.mono (by have := unhide Z2; simp; omega))
  have Q3 := hide q3
  have HB3 := hide hb3
  clear b3 q3 hb3
  go_wp2_with (refine wpList_store_row rfl 23 (.tmp 8) (.tmp 16) rfl (w.heap.size + 1 + 1) _ rfl rfl 23 _ (unhide Q3) hi1 hz1 ho1 ?_)
  exact bodyPost_ret (results_cell_row rfl _ _ (w.heap.size + 1 + 1) _ _ _ _ rfl (setRow_heap _ _ _ _ _ _ (unhide Q3)) Tryd.underlying23 rfl hi1) rfl ⟨rfl, below_setRow (unhide HB3) (by omega) _⟩
end Go.Proofs.YtlicadfbkjhihaaDoor

namespace Go.Proofs.YtlicadfbkjhihaaDoor
open Go Go.RowKit
set_option linter.unusedSimpArgs false
set_option linter.unusedVariables false

set_option maxHeartbeats 1000000 in
set_option maxRecDepth 100000 in
theorem ropenedN_calls (d : List UInt8) (hd : d.length = 32) (n1 n2 : Nat) (hn : n1 ≠ 32 ∨ n2 ≠ 32) (p1 p2 : Option Addr) (c1 c2 : Nat) (w : World) :
    Calls Tryd.prog 46 #[.pointer none, .agg (bc d), .slice p1 n1 c1, .slice p2 n2 c2] w fun e w' => e = .returned (.tuple #[.agg (bc (List.replicate 32 0)), .bool false]) ∧ Below w.heap.size w w' := by
  obtain ⟨q0, q1⟩ := al2 w (.cells (bc d) 23) (.cells (bc (List.replicate 32 0)) 23)
  have b0 := bel2 w (.cells (bc d) 23) (.cells (bc (List.replicate 32 0)) 23)
  have hz : (List.replicate 32 (0 : UInt8)).length = 32 := by simp
  have hi1 := digInfo (List.replicate 32 0) hz
  have hz1 := zeroSize (List.replicate 32 0) hz
  have ho1 := bc_oneCell (List.replicate 32 0)
  have hbu : Tryd.prog.built 23 [] = some (bc (List.replicate 32 0)) := by kernel_rfl
  obtain ⟨X, hX⟩ : ∃ X, (w.alloc (.cells (bc d) 23)).alloc (.cells (bc (List.replicate 32 0)) 23) = X := ⟨_, rfl⟩
  rw [hX] at q1 b0
  have HX := hide hX
  generalize hZ : bc (List.replicate 32 0) = Z at *
  have HZ := hide hZ
  have HBU := hide hbu
  clear q0 hX hz hZ hbu
  by_cases h1 : n1 = 32
  · have h2 : n2 ≠ 32 := by omega
    subst h1
    have d2 : ((n2 : Int) == 32) = false := by simp; omega
    clear hn h2
    go_enter Tryd.func46, Tryd.ntmps46
    go_upto_region 1 with fail
    change Code.wp _ _ _ _ ((w.alloc (.cells (bc d) 23)).alloc (.cells (bc (List.replicate 32 0)) 23))
    rw [unhide HZ, unhide HX]
    go_wp2_with (first
      | (refine wpList_build_to rfl 23 #[] rfl Z (unhide HBU) ?_)
      | (refine wpList_store_row rfl 23 (.tmp 8) (.tmp 21) rfl (w.heap.size + 1) Z rfl rfl 23 _ q1 hi1 hz1 ho1 ?_))
    exact bodyPost_ret (results_row_tmp rfl _ _ (w.heap.size + 1) _ _ _ _ rfl (setRow_heap _ _ _ _ _ _ q1) Tryd.underlying23 rfl hi1) rfl ⟨rfl, below_setRow b0 (by omega) _⟩
  · have d1 : ((n1 : Int) == 32) = false := by simp; omega
    clear hn h1
    go_enter Tryd.func46, Tryd.ntmps46
    go_upto_region 1 with fail
    change Code.wp _ _ _ _ ((w.alloc (.cells (bc d) 23)).alloc (.cells (bc (List.replicate 32 0)) 23))
    rw [unhide HZ, unhide HX]
    go_wp2_with (first
      | (refine wpList_build_to rfl 23 #[] rfl Z (unhide HBU) ?_)
      | (refine wpList_store_row rfl 23 (.tmp 8) (.tmp 21) rfl (w.heap.size + 1) Z rfl rfl 23 _ q1 hi1 hz1 ho1 ?_))
    exact bodyPost_ret (results_row_tmp rfl _ _ (w.heap.size + 1) _ _ _ _ rfl (setRow_heap _ _ _ _ _ _ q1) Tryd.underlying23 rfl hi1) rfl ⟨rfl, below_setRow b0 (by omega) _⟩
set_option maxHeartbeats 4000000 in
set_option maxRecDepth 100000 in
theorem rclimb_calls (leaf : List UInt8) (hl : leaf.length = 32) (x : Nat) (hx : x < 4294967296) (ds : List (List UInt8)) (p : Option Addr) (cap : Nat) (hlen : ds.length ≤ 60) (w : World) (hD : DL w p ds) :
    Calls Tryd.prog 47 #[.pointer none, .agg (bc leaf), .int .i64 (x : Int), .slice p ds.length cap] w fun e w' => e = .returned (.agg (bc (kClimb leaf x ds ds.length))) ∧ Below w.heap.size w w' := by
  obtain ⟨q0, q1⟩ := al2 w (.cells (bc leaf) 23) (.cells (bc (List.replicate 32 0)) 23)
  have b0 := bel2 w (.cells (bc leaf) 23) (.cells (bc (List.replicate 32 0)) 23)
  have HD := hide hD
  have HL := hide (kClimb_length leaf x ds hl)
  have Hx := hide hx
  have Hlen := hide hlen
  have hwr : IntKind.u64.wrap (x : Int) = (x : Int) := by rw [IntKind.wrap_u64]; omega
  have hneg : decide ((x : Int) < 0) = false := by simp
  obtain ⟨X, hX⟩ : ∃ X, (w.alloc (.cells (bc leaf) 23)).alloc (.cells (bc (List.replicate 32 0)) 23) = X := ⟨_, rfl⟩
  rw [hX] at q0 q1 b0
  have HX := hide hX
  clear hD hx hlen hX
  go_enter Tryd.func47, Tryd.ntmps47
  go_upto_region 1 with fail
  change Code.wp _ _ _ _ ((w.alloc (.cells (bc leaf) 23)).alloc (.cells (bc (List.replicate 32 0)) 23))
  rw [unhide HX]
  go_wp2
  obtain ⟨N, hN⟩ : ∃ N, w.heap.size = N := ⟨_, rfl⟩
  have HN := hide hN
  go_loopw [9, 15] (fun u i wr => ∃ k : Nat, k ≤ ds.length ∧ i = .int .i64 (k : Int) ∧ u = .int .u64 ((x / 2 ^ k : Nat) : Int) ∧ Below N w wr ∧ wr.heap[N + 1]? = some (.cells (bc (List.replicate 32 0)) 23 (0, 0)) ∧ wr.heap[N]? = some (.cells (bc (kClimb leaf x ds k)) 23 (0, 0))) (fun _ i _ => ds.length - (intOf i).toNat)
  case atStart =>
    subst hN
    exact ⟨0, by omega, rfl, by simp, b0, q1, q0⟩
  case round =>
    obtain ⟨k, hk, rfl, rfl, hb, q1, q2⟩ := hrel
    rw [hN]
    by_cases hlt : k < ds.length
    · have hd : decide (k < ds.length) = true := by simpa using hlt
      have hDk := unhide HD
      obtain ⟨b, off, rfl, hlt2, hc⟩ := hDk.2 (by intro h; rw [h] at hlt; simp at hlt)
      have hEl := hDk.len k hlt
      have hr := rangeAt_below (hc k hlt) hb (by rw [← hN]; exact hlt2)
      have hzb : b < wr.heap.size := by have := hb.size; omega
      have hTl := unhide HL k
      have hT2l := unhide HL (k + 1)
      have hT2e : kClimb leaf x ds (k + 1) = if x / 2 ^ k % 2 = 1 then pOf 4 [ds.getD k [], kClimb leaf x ds k] else pOf 4 [kClimb leaf x ds k, ds.getD k []] := rfl
      obtain ⟨E, hE⟩ : ∃ E, ds.getD k [] = E := ⟨_, rfl⟩
      rw [hE] at hEl hr hT2e
      obtain ⟨T1, hT1⟩ : ∃ T, kClimb leaf x ds k = T := ⟨_, rfl⟩
      rw [hT1] at hTl q2 hT2e
      obtain ⟨T2, hT2⟩ : ∃ T, kClimb leaf x ds (k + 1) = T := ⟨_, rfl⟩
      rw [hT2] at hT2e hT2l
      have hst : x / 2 ^ (k + 1) = x / 2 ^ k / 2 := by rw [Nat.pow_succ, Nat.div_div_eq_div_mul]
      have hBl : x / 2 ^ k < 4294967296 := Nat.lt_of_le_of_lt (Nat.div_le_self _ _) (unhide Hx)
      obtain ⟨B, hB⟩ : ∃ B, x / 2 ^ k = B := ⟨_, rfl⟩
      rw [hB] at hT2e hst hBl ⊢
      have HBB2 := hide hst
      have e6 : (B : Int).tdiv 2 = ((B / 2 : Nat) : Int) := by
        rw [Int.tdiv_eq_ediv_of_nonneg (by omega)]; rfl
      have hB2 : B / 2 < 4294967296 := by omega
      generalize B / 2 = BH at *
      have hk60 : k ≤ 60 := by have := unhide Hlen; omega
      have hiT := digInfo _ hTl
      have hi2 := digInfo _ hT2l
      have ho2 := bc_oneCell T2
      have hz2 : (bc T1).size = (bc T2).size := by rw [bc_size, bc_size, hTl, hT2l]
      have b1 : (0 : Int) ≤ k ∧ (k : Int) < ds.length := by omega
      have RE : Hid (∀ w', (∃ p : Regrown, w' = Sort.grow (redrawn wr p.d) p.os) → w'.rangeAt b (off + k * 32) (Lib.byteCells E)) := fun w' ⟨p, hp⟩ => by rw [hp]; exact rangeAt_below hr (below_regrown wr p.d p.os) hzb
      have RT : Hid (∀ w', (∃ p : Regrown, w' = Sort.grow (redrawn wr p.d) p.os) → w'.heap[N]? = some (.cells (bc T1) 23 (0, 0))) := fun w' ⟨p, hp⟩ => by rw [hp]; exact Below.at (below_regrown wr p.d p.os) (Array.getElem?_eq_some_iff.1 q2).1 q2
      have HEl := hide hEl
      have HTl := hide hTl
      have HT2 := hide hT2
      have HT2e := hide hT2e
      have Q1 := hide q1
      have Q2 := hide q2
      have HB := hide hb
      have Hk := hide hlt
      clear q1 q2 hb hlt hT2 hT2e hE hT1 hr hc hlt2 hB hEl hTl hT2l hDk hst hzb
      by_cases hbit : B % 2 = 1
      · skip
        have e1 := unhide HT2e
        rw [if_pos hbit] at e1
        have kT : Hid (∀ dd os, Calls Tryd.prog 66 #[.pointer none, .int .u8 4, .agg (bc E), .agg (bc T1)] (Sort.grow (redrawn wr dd) os) fun e w'' => e = .returned (.agg (bc T2)) ∧ ∃ p : Regrown, w'' = Sort.grow (redrawn wr p.d) p.os) := hide fun dd os => by
          rw [e1]; exact Calls.regrown_of (rtwo_calls 4 (by decide) E T1 (unhide HEl) (unhide HTl) _)
        have e5 : (B : Int).tmod 2 = 1 := by rw [Int.tmod_eq_emod_of_nonneg (by omega)]; omega
        clear e1 HT2e hbit
        go_wp2_with fail
        · refine wp_region_below_tail 7 mixed (by kernel_rfl) ?_
          simp only [List.take_succ_cons, List.take_zero, List.drop_succ_cons, List.drop_zero]
          quiet_step (fail)
          quiet_step (fail)
          quiet_step (fail)
          quiet_step (fail)
          refine wpQuiet_load_mid rfl 23 (.tmp 24) rfl b (off + k * 32) rfl (Lib.byteCells E) _ (unhide RE) Tryd.underlying23 rfl (by rw [Lib.byteCells_length, unhide HEl]; kernel_rfl) ?_
          refine wpQuiet_load_row rfl 23 (.tmp 5) rfl N rfl 23 _ (0, 0) _ (unhide RT) Tryd.underlying23 rfl hiT ?_
          quiet_step (exact unhide kT _ _)
          refine wpQuiet_nil ?_
          intro w2 b2
          have r1 := Below.at b2 (Array.getElem?_eq_some_iff.1 (unhide Q1)).1 (unhide Q1)
          have r2 := Below.at b2 (Array.getElem?_eq_some_iff.1 (unhide Q2)).1 (unhide Q2)
          have bb2 : Below N w w2 := (unhide HB).trans (b2.mono (by have := (unhide HB).size; rw [← hN]; exact this))
          clear b2 kT RE RT
          go_wp2_with (refine wpList_store_row rfl 23 (.tmp 5) (.tmp 27) rfl N _ rfl rfl 23 _ r2 hi2 hz2 ho2 ?_)
          go_roundw
          case rel => exact ⟨k + 1, by have := unhide Hk; omega, by go_num, by rw [unhide HBB2], below_setRow bb2 (by omega) _, by rw [setRow_other _ _ _ _ (by omega)]; exact r1, by rw [unhide HT2]; exact setRow_heap _ _ _ _ _ _ r2⟩
          case measure => have := unhide Hk; simp [intOf]; omega
      · skip
        have e1 := unhide HT2e
        rw [if_neg hbit] at e1
        have kT : Hid (∀ dd os, Calls Tryd.prog 66 #[.pointer none, .int .u8 4, .agg (bc T1), .agg (bc E)] (Sort.grow (redrawn wr dd) os) fun e w'' => e = .returned (.agg (bc T2)) ∧ ∃ p : Regrown, w'' = Sort.grow (redrawn wr p.d) p.os) := hide fun dd os => by
          rw [e1]; exact Calls.regrown_of (rtwo_calls 4 (by decide) T1 E (unhide HTl) (unhide HEl) _)
        have e5 : (B : Int).tmod 2 = 0 := by rw [Int.tmod_eq_emod_of_nonneg (by omega)]; omega
        clear e1 HT2e hbit
        go_wp2_with fail
        · refine wp_region_below_tail 7 mixed (by kernel_rfl) ?_
          simp only [List.take_succ_cons, List.take_zero, List.drop_succ_cons, List.drop_zero]
          quiet_step (fail)
          refine wpQuiet_load_row rfl 23 (.tmp 5) rfl N rfl 23 _ (0, 0) _ (unhide RT) Tryd.underlying23 rfl hiT ?_
          quiet_step (fail)
          quiet_step (fail)
          quiet_step (fail)
          refine wpQuiet_load_mid rfl 23 (.tmp 32) rfl b (off + k * 32) rfl (Lib.byteCells E) _ (unhide RE) Tryd.underlying23 rfl (by rw [Lib.byteCells_length, unhide HEl]; kernel_rfl) ?_
          quiet_step (exact unhide kT _ _)
          refine wpQuiet_nil ?_
          intro w2 b2
          have r1 := Below.at b2 (Array.getElem?_eq_some_iff.1 (unhide Q1)).1 (unhide Q1)
          have r2 := Below.at b2 (Array.getElem?_eq_some_iff.1 (unhide Q2)).1 (unhide Q2)
          have bb2 : Below N w w2 := (unhide HB).trans (b2.mono (by have := (unhide HB).size; rw [← hN]; exact this))
          clear b2 kT RE RT
          go_wp2_with (refine wpList_store_row rfl 23 (.tmp 5) (.tmp 34) rfl N _ rfl rfl 23 _ r2 hi2 hz2 ho2 ?_)
          go_roundw
          case rel => exact ⟨k + 1, by have := unhide Hk; omega, by go_num, by rw [unhide HBB2], below_setRow bb2 (by omega) _, by rw [setRow_other _ _ _ _ (by omega)]; exact r1, by rw [unhide HT2]; exact setRow_heap _ _ _ _ _ _ r2⟩
          case measure => have := unhide Hk; simp [intOf]; omega
    · have hd : decide (k < ds.length) = false := by simpa using hlt
      have hkl : k = ds.length := by omega
      have hM1 := unhide HL ds.length
      have hi := digInfo _ hM1
      have hz := zeroSize _ hM1
      have ho := bc_oneCell (kClimb leaf x ds ds.length)
      rw [hkl] at q2
      have Q1 := hide q1
      have Q2 := hide q2
      have HB := hide hb
      clear q1 q2 hb hkl hlt hM1
      go_wp2_with (first
        | refine wpList_load_row rfl 23 (.tmp 5) rfl N rfl 23 _ (0, 0) _ (unhide Q2) Tryd.underlying23 rfl hi ?_
        | refine wpList_store_row rfl 23 (.tmp 8) (.tmp 42) rfl (N + 1) _ rfl rfl 23 _ (unhide Q1) hi hz ho ?_)
      exact bodyPost_ret (results_cell_row rfl _ _ (N + 1) _ _ _ _ rfl (setRow_heap _ _ _ _ _ _ (unhide Q1)) Tryd.underlying23 rfl hi) rfl ⟨rfl, by rw [unhide HN]; exact below_setRow (unhide HB) (by omega) _⟩
end Go.Proofs.YtlicadfbkjhihaaDoor

namespace Go.Proofs.YtlicadfbkjhihaaDoor
open Go Go.RowKit
set_option linter.unusedSimpArgs false
set_option linter.unusedVariables false

set_option maxHeartbeats 4000000 in
set_option maxRecDepth 100000 in
theorem rverify_good (root e : List UInt8) (hRl : root.length = 32) (he : e.length = 32) (x : Nat) (hx : x < 16) (P O : List UInt8) (hPl : P.length = 1024) (hOl : O.length = 1024) (ds : List (List UInt8)) (hds : ds.length = 4) (g1 o1 c1 g2 o2 c2 : Nat) (p3 : Option Addr) (c3 : Nat) (w : World) (hg1 : g1 < w.heap.size) (hg2 : g2 < w.heap.size) (bP : Bytes w g1 o1 P) (bO : Bytes w g2 o2 O) (hD : DL w p3 ds) :
    Calls Tryd.prog 30 #[.pointer none, .agg (bc root), .agg (bc e), .agg #[.int .i64 (x : Int), .slice (some ⟨g1, o1, none⟩) 32 c1, .slice (some ⟨g2, o2, none⟩) 32 c2, .slice p3 4 c3]] w fun en w' => en = .returned (.bool (decide (kClimb (pWordOf (pOpen e P O 32)) x ds 4 = root))) ∧ Below w.heap.size w w' := by
  have hiR := digInfo _ hRl
  have hid := digInfo e he
  have d0x : decide ((x : Int) < 0) = false := by simp
  have d1x : decide ((15 : Int) < (x : Int)) = false := by simp; omega
  have co := hide fun W h1 h2 b1 b2 => ropened_calls e he P O hPl hOl g1 o1 c1 g2 o2 c2 W h1 h2 b1 b2
  have hWl : (pWordOf (pOpen e P O 32)).length = 32 := pOf_length _ _
  have hiW := digInfo _ hWl
  have hzW := zeroSize _ hWl
  have cc := hide fun W hD => rclimb_calls (pWordOf (pOpen e P O 32)) hWl x (by omega) ds p3 c3 (by omega) W hD
  rw [hds] at cc
  have hTl := kClimb_length (pWordOf (pOpen e P O 32)) x ds hWl 4
  have heq := hide fun W => dig_eq (kClimb (pWordOf (pOpen e P O 32)) x ds 4) root hTl hRl W
  obtain ⟨ans, hans⟩ : ∃ ans, decide (kClimb (pWordOf (pOpen e P O 32)) x ds 4 = root) = ans := ⟨_, rfl⟩
  rw [hans] at heq ⊢
  generalize kClimb (pWordOf (pOpen e P O 32)) x ds 4 = TD at *
  generalize pWordOf (pOpen e P O 32) = WD at *
  generalize root = R at *
  obtain ⟨q0, q1, q2⟩ := al3 w (.cells (bc R) 23) (.cells (bc e) 23) (.cells #[.int .i64 (x : Int), .slice (some ⟨g1, o1, none⟩) 32 c1, .slice (some ⟨g2, o2, none⟩) 32 c2, .slice p3 4 c3] 30)
  have hb := bel3 w (.cells (bc R) 23) (.cells (bc e) 23) (.cells #[.int .i64 (x : Int), .slice (some ⟨g1, o1, none⟩) 32 c1, .slice (some ⟨g2, o2, none⟩) 32 c2, .slice p3 4 c3] 30)
  have u1 := hide (bP.below hb hg1)
  have u2 := hide (bO.below hb hg2)
  have u3 := hide (hD.below hb (Nat.le_refl _))
  have z1 : g1 < (((w.alloc (.cells (bc R) 23)).alloc (.cells (bc e) 23)).alloc (.cells #[.int .i64 (x : Int), .slice (some ⟨g1, o1, none⟩) 32 c1, .slice (some ⟨g2, o2, none⟩) 32 c2, .slice p3 4 c3] 30)).heap.size := Nat.lt_of_lt_of_le hg1 hb.size
  have z2 : g2 < (((w.alloc (.cells (bc R) 23)).alloc (.cells (bc e) 23)).alloc (.cells #[.int .i64 (x : Int), .slice (some ⟨g1, o1, none⟩) 32 c1, .slice (some ⟨g2, o2, none⟩) 32 c2, .slice p3 4 c3] 30)).heap.size := Nat.lt_of_lt_of_le hg2 hb.size
  clear hRl hTl hans hPl hOl hds bP bO hD hg1 hg2
  obtain ⟨X, hX⟩ : ∃ X, ((w.alloc (.cells (bc R) 23)).alloc (.cells (bc e) 23)).alloc (.cells #[.int .i64 (x : Int), .slice (some ⟨g1, o1, none⟩) 32 c1, .slice (some ⟨g2, o2, none⟩) 32 c2, .slice p3 4 c3] 30) = X := ⟨_, rfl⟩
  rw [hX] at q0 q1 q2 hb u1 u2 u3 z1 z2
  have Z1 := hide z1
  have Z2 := hide z2
  clear z1 z2
  have HX := hide hX
  have zX := (Array.getElem?_eq_some_iff.1 q2).1
  have k0 : X.cell? ⟨w.heap.size + 1 + 1, 0, none⟩ = some (.int .i64 (x : Int)) := cell_of_row _ _ _ _ _ _ q2
  have k1 : X.cell? ⟨w.heap.size + 1 + 1, 1, none⟩ = some (.slice (some ⟨g1, o1, none⟩) 32 c1) := cell_of_row _ _ _ _ _ _ q2
  have k2 : X.cell? ⟨w.heap.size + 1 + 1, 2, none⟩ = some (.slice (some ⟨g2, o2, none⟩) 32 c2) := cell_of_row _ _ _ _ _ _ q2
  have k3 : X.cell? ⟨w.heap.size + 1 + 1, 3, none⟩ = some (.slice p3 4 c3) := cell_of_row _ _ _ _ _ _ q2
  clear hX
  go_enter Tryd.func30, Tryd.ntmps30
  go_wp2_with (first
    | (rw [unhide HX])
    | (refine wpList_load_row rfl 23 (.tmp 6) rfl (w.heap.size + 1) rfl 23 _ (0, 0) _ q1 Tryd.underlying23 rfl hid ?_))
  refine (unhide co _ (unhide Z1) (unhide Z2) (unhide u1) (unhide u2)).mono ?_
  rintro en w2 ⟨rfl, b2⟩
  have z2 := b2.size
  have bW2 : Below w.heap.size w w2 := hb.trans (b2.mono hb.size)
  go_wp2_with (refine wpList_store_new rfl 23 (.tmp 9) (.tmp 33) rfl w2 _ _ WD rfl rfl hiW hzW ?_; intro w3 q9 b3 z3)
  have b13 : Below X.heap.size X w3 := b2.trans (b3.mono z2)
  have bW3 : Below w.heap.size w w3 := bW2.trans (b3.mono bW2.size)
  have p0 := Below.at b13 (Array.getElem?_eq_some_iff.1 q0).1 q0
  have p2 := Below.at b13 zX q2
  have D3 := hide ((unhide u3).below b13 (Nat.le_refl _))
  have zp2 := (Array.getElem?_eq_some_iff.1 p2).1
  obtain ⟨K, hK⟩ : ∃ K, w2.heap.size = K := ⟨_, rfl⟩
  rw [hK] at q9
  rw [hK]
  have R0 : Hid (∀ w', (∃ p : Regrown, w' = Sort.grow (redrawn w3 p.d) p.os) → w'.heap[w.heap.size]? = some (.cells (bc R) 23 (0, 0))) := fun w' ⟨p, hp⟩ => by rw [hp]; exact Below.at (below_regrown w3 p.d p.os) (Array.getElem?_eq_some_iff.1 p0).1 p0
  have R9 : Hid (∀ w', (∃ p : Regrown, w' = Sort.grow (redrawn w3 p.d) p.os) → w'.heap[K]? = some (.cells (bc WD) 23 (0, 0))) := fun w' ⟨p, hp⟩ => by rw [hp]; exact Below.at (below_regrown w3 p.d p.os) (Array.getElem?_eq_some_iff.1 q9).1 q9
  have d0 : ∀ d os, (Sort.grow (redrawn w3 d) os).cell? ⟨w.heap.size + 1 + 1, 0, none⟩ = some (.int .i64 (x : Int)) := fun d os => by
    rw [(below_regrown w3 d os).cell (p := ⟨w.heap.size + 1 + 1, 0, none⟩) zp2]; exact cell_of_row _ _ _ _ _ _ p2
  have d3 : ∀ d os, (Sort.grow (redrawn w3 d) os).cell? ⟨w.heap.size + 1 + 1, 3, none⟩ = some (.slice p3 4 c3) := fun d os => by
    rw [(below_regrown w3 d os).cell (p := ⟨w.heap.size + 1 + 1, 3, none⟩) zp2]; exact cell_of_row _ _ _ _ _ _ p2
  have kC := hide fun d os => Calls.regrown_of (w := w3) (d := d) (os := os) (unhide cc _ ((unhide D3).below (below_regrown w3 d os) (Nat.le_refl _)))
  clear k0 k1 k2 k3 q0 q1 q2 q9 p0 p2 D3 b2 b3 b13 z2 z3 hK zp2 zX bW2
  go_wp2_with fail
  refine wp_region_below mixed (by kernel_rfl) ?_
  quiet_step (fail)
  refine wpQuiet_load_row rfl 23 (.tmp 9) rfl K rfl 23 _ (0, 0) _ (unhide R9) Tryd.underlying23 rfl hiW ?_
  quiet_step (fail)
  quiet_step (fail)
  quiet_step (fail)
  quiet_step (fail)
  quiet_step (exact unhide kC _ _)
  refine wpQuiet_load_row rfl 23 (.tmp 5) rfl w.heap.size rfl 23 _ (0, 0) _ (unhide R0) Tryd.underlying23 rfl hiR ?_
  refine wpQuiet_eql rfl 23 23 (.tmp 43) (.tmp 44) rfl _ _ rfl rfl (by kernel_rfl) ans (unhide heq) ?_
  quiet_step (fail)
  refine wpQuiet_nil ?_
  intro w4 b4
  go_wp2
  go_ret
  exact ⟨rfl, bW3.trans (b4.mono bW3.size)⟩
set_option maxHeartbeats 1000000 in
set_option maxRecDepth 100000 in
/-- An Index of no key, or a path of another length. -/
theorem rverify_bad1 (root e : List UInt8) (hR : root.length = 32) (he : e.length = 32) (x : Int) (n1 n2 n3 c1 c2 c3 : Nat) (p1 p2 p3 : Option Addr) (hbad : ¬ (0 ≤ x ∧ x < 16) ∨ n3 ≠ 4) (w : World) :
    Calls Tryd.prog 30 #[.pointer none, .agg (bc root), .agg (bc e), .agg #[.int .i64 x, .slice p1 n1 c1, .slice p2 n2 c2, .slice p3 n3 c3]] w fun en w' => en = .returned (.bool false) ∧ Below w.heap.size w w' := by
  obtain ⟨q0, q1, q2⟩ := al3 w (.cells (bc root) 23) (.cells (bc e) 23) (.cells #[.int .i64 x, .slice p1 n1 c1, .slice p2 n2 c2, .slice p3 n3 c3] 30)
  have hb := bel3 w (.cells (bc root) 23) (.cells (bc e) 23) (.cells #[.int .i64 x, .slice p1 n1 c1, .slice p2 n2 c2, .slice p3 n3 c3] 30)
  obtain ⟨X, hX⟩ : ∃ X, ((w.alloc (.cells (bc root) 23)).alloc (.cells (bc e) 23)).alloc (.cells #[.int .i64 x, .slice p1 n1 c1, .slice p2 n2 c2, .slice p3 n3 c3] 30) = X := ⟨_, rfl⟩
  rw [hX] at q2 hb
  have HX := hide hX
  have k0 : X.cell? ⟨w.heap.size + 1 + 1, 0, none⟩ = some (.int .i64 x) := cell_of_row _ _ _ _ _ _ q2
  have k3 : X.cell? ⟨w.heap.size + 1 + 1, 3, none⟩ = some (.slice p3 n3 c3) := cell_of_row _ _ _ _ _ _ q2
  clear hX q0 q1 q2 hR he
  by_cases hx0 : x < 0
  · have d0 : decide (x < 0) = true := decide_eq_true hx0
    clear hbad hx0
    go_enter Tryd.func30, Tryd.ntmps30
    go_wp2_with (rw [unhide HX])
    go_ret
    exact ⟨rfl, hb⟩
  · have d0 : decide (x < 0) = false := decide_eq_false hx0
    by_cases hx1 : (15 : Int) < x
    · have d1 : decide ((15 : Int) < x) = true := decide_eq_true hx1
      clear hbad hx0 hx1
      go_enter Tryd.func30, Tryd.ntmps30
      go_wp2_with (rw [unhide HX])
      go_ret
      exact ⟨rfl, hb⟩
    · have d1 : decide ((15 : Int) < x) = false := decide_eq_false hx1
      have d3 : ((n3 : Int) == 4) = false := by simp; omega
      clear hbad hx0 hx1
      go_enter Tryd.func30, Tryd.ntmps30
      go_wp2_with (rw [unhide HX])
      go_ret
      exact ⟨rfl, hb⟩
set_option maxHeartbeats 1000000 in
set_option maxRecDepth 100000 in
/-- Another number of parts. -/
theorem rverify_bad2 (root e : List UInt8) (hR : root.length = 32) (he : e.length = 32) (x : Int) (hx0 : 0 ≤ x) (hx1 : x < 16) (n1 n2 c1 c2 c3 : Nat) (p1 p2 p3 : Option Addr) (hn : n1 ≠ 32 ∨ n2 ≠ 32) (w : World) :
    Calls Tryd.prog 30 #[.pointer none, .agg (bc root), .agg (bc e), .agg #[.int .i64 x, .slice p1 n1 c1, .slice p2 n2 c2, .slice p3 4 c3]] w fun en w' => en = .returned (.bool false) ∧ Below w.heap.size w w' := by
  have hid := digInfo e he
  have d0x : decide (x < 0) = false := decide_eq_false (by omega)
  have d1x : decide ((15 : Int) < x) = false := decide_eq_false (by omega)
  have co := hide fun W => ropenedN_calls e he n1 n2 hn p1 p2 c1 c2 W
  obtain ⟨ZD, hZD⟩ : ∃ Z, List.replicate 32 (0 : UInt8) = Z := ⟨_, rfl⟩
  have hz : ZD.length = 32 := by rw [← hZD]; simp
  have hiW := digInfo ZD hz
  have hzW := zeroSize ZD hz
  rw [hZD] at co
  obtain ⟨q0, q1, q2⟩ := al3 w (.cells (bc root) 23) (.cells (bc e) 23) (.cells #[.int .i64 x, .slice p1 n1 c1, .slice p2 n2 c2, .slice p3 4 c3] 30)
  have hb := bel3 w (.cells (bc root) 23) (.cells (bc e) 23) (.cells #[.int .i64 x, .slice p1 n1 c1, .slice p2 n2 c2, .slice p3 4 c3] 30)
  obtain ⟨X, hX⟩ : ∃ X, ((w.alloc (.cells (bc root) 23)).alloc (.cells (bc e) 23)).alloc (.cells #[.int .i64 x, .slice p1 n1 c1, .slice p2 n2 c2, .slice p3 4 c3] 30) = X := ⟨_, rfl⟩
  rw [hX] at q1 q2 hb
  have HX := hide hX
  have k0 : X.cell? ⟨w.heap.size + 1 + 1, 0, none⟩ = some (.int .i64 x) := cell_of_row _ _ _ _ _ _ q2
  have k1 : X.cell? ⟨w.heap.size + 1 + 1, 1, none⟩ = some (.slice p1 n1 c1) := cell_of_row _ _ _ _ _ _ q2
  have k2 : X.cell? ⟨w.heap.size + 1 + 1, 2, none⟩ = some (.slice p2 n2 c2) := cell_of_row _ _ _ _ _ _ q2
  have k3 : X.cell? ⟨w.heap.size + 1 + 1, 3, none⟩ = some (.slice p3 4 c3) := cell_of_row _ _ _ _ _ _ q2
  clear hX q0 q2 hR he hx0 hx1 hn hz hZD
  go_enter Tryd.func30, Tryd.ntmps30
  go_wp2_with (first
    | (rw [unhide HX])
    | (refine wpList_load_row rfl 23 (.tmp 6) rfl (w.heap.size + 1) rfl 23 _ (0, 0) _ q1 Tryd.underlying23 rfl hid ?_))
  refine (unhide co _).mono ?_
  rintro en w2 ⟨rfl, b2⟩
  have bW2 : Below w.heap.size w w2 := hb.trans (b2.mono hb.size)
  clear k0 k1 k2 k3 q1 b2 hb
  go_wp2_with (refine wpList_store_new rfl 23 (.tmp 9) (.tmp 33) rfl w2 _ _ ZD rfl rfl hiW hzW ?_; intro w3 q9 b3 z3)
  have bW3 : Below w.heap.size w w3 := bW2.trans (b3.mono bW2.size)
  clear b3 bW2 q9 z3
  go_wp2
  go_ret
  exact ⟨rfl, bW3⟩
theorem rverifyX_calls (root e : List UInt8) (hR : root.length = 32) (he : e.length = 32) (x : Int) (p1 p2 p3 : Option Addr) (n1 n2 n3 c1 c2 c3 : Nat) (P O Q : List UInt8) (w : World) (D1 : Digs w (.slice p1 n1 c1) P) (D2 : Digs w (.slice p2 n2 c2) O) (D3 : Digs w (.slice p3 n3 c3) Q) :
    Calls Tryd.prog 30 #[.pointer none, .agg (bc root), .agg (bc e), .agg #[.int .i64 x, .slice p1 n1 c1, .slice p2 n2 c2, .slice p3 n3 c3]] w fun en w' => en = .returned (.bool (pVer root e x n1 n2 n3 P O Q)) ∧ Below w.heap.size w w' := by
  unfold pVer
  by_cases h : (0 ≤ x ∧ x < 16) ∧ n3 = 4
  · rw [if_pos h]
    obtain ⟨⟨h0, h1⟩, rfl⟩ := h
    by_cases h2 : n1 = 32 ∧ n2 = 32
    · rw [if_pos h2]
      obtain ⟨rfl, rfl⟩ := h2
      obtain ⟨l1, b1, o1, rfl, z1, B1⟩ := digs_32 D1
      obtain ⟨l2, b2, o2, rfl, z2, B2⟩ := digs_32 D2
      obtain ⟨k, rfl⟩ := Int.eq_ofNat_of_zero_le h0
      exact rverify_good root e hR he k (by omega) P O l1 l2 (chunks4 Q) (chunks4_length Q) b1 o1 c1 b2 o2 c2 p3 c3 w z1 z2 B1 B2 (DL_of_digs D3)
    · rw [if_neg h2]
      exact rverify_bad2 root e hR he x h0 h1 n1 n2 c1 c2 c3 p1 p2 p3 (by omega) w
  · rw [if_neg h]
    exact rverify_bad1 root e hR he x n1 n2 n3 c1 c2 c3 p1 p2 p3 (by omega) w
end Go.Proofs.YtlicadfbkjhihaaDoor
