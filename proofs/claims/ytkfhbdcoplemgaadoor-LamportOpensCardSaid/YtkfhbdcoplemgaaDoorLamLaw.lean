/-
  WHAT THE LAWS OF LAYER 5 LEAN ON: equality of digests; what is signed is opened to the key's word; the chapter's example.
-/
import Derived.Test.YtkfhbdcoplemgaaDoorLamO
import Derived.Test.YtkfhbdcoplemgaaDoorKitEq
import Derived.Test.YtkfhbdcoplemgaaDoorStoreNew
namespace Go.Proofs.YtkfhbdcoplemgaaDoor
open Go Go.RowKit
set_option linter.unusedSimpArgs false
set_option linter.unusedVariables false

theorem digest_eql (d : List UInt8) (hd : d.length = 32) (w : World) : (binOp .eql 24 (.agg (bc d)) (.agg (bc d))).run Tryd.prog w = .ok (.bool true) w := by
  obtain ⟨la, hla⟩ := keyLits_ints (P := Tryd.prog) 24 5 32 .u8 Tryd.underlying24 Tryd.underlying5 (by kernel_rfl) (by kernel_rfl) (d.map fun b => (b.toNat : Int)) (by simpa using hd) (fun z hz => by
    obtain ⟨b, _, rfl⟩ := List.mem_map.1 hz
    have := b.toNat_lt
    simp [Lit.wf, IntKind.min, IntKind.max, IntKind.signed, IntKind.bits]; omega)
  refine eql_refl 24 2 2 (by omega) (by kernel_rfl) _ ?_ la ?_ w
  · simp only [Value.formed, Tryd.underlying24, bc_size, hd]; kernel_rfl
  · rw [← hla]; simp [bc, Lib.byteCells]; rfl
theorem flat_chunk (f : Nat → List UInt8) (hf : ∀ j, (f j).length = 32) : ∀ k i, i < k → chunk ((List.range k).flatMap f) i = f i
  | 0, i, h => absurd h (Nat.not_lt_zero _)
  | k + 1, i, h => by
    have hl := flat32 f hf k
    rw [List.range_succ, List.flatMap_append]
    by_cases hi : i < k
    · have ih := flat_chunk f hf k i hi
      unfold chunk at ih ⊢
      rw [List.drop_append_of_le_length (by omega), List.take_append_of_le_length (by rw [List.length_drop]; omega)]
      exact ih
    · obtain rfl : i = k := by omega
      unfold chunk
      rw [show 32 * i = ((List.range i).flatMap f).length by omega, List.drop_left]
      simp [List.take_of_length_le, hf]
theorem open_at (seed : List UInt8) (index : Nat) (d : List UInt8) (i : Nat) (hi : i < 32) : openAt d (pParts seed index d 32) (pOthers seed index d 32) i = pubAt seed index (2 * i) ++ pubAt seed index (2 * i + 1) := by
  have h1 : chunk (pParts seed index d 32) i = partAt seed index d i := flat_chunk _ (fun j => pSecret_length _ _ _ _) 32 i hi
  have h2 : chunk (pOthers seed index d 32) i = otherAt seed index d i := flat_chunk _ (fun j => pPublic_length _) 32 i hi
  have hb := pBit_lt d i
  unfold openAt
  rw [h1, h2]
  unfold partAt otherAt pubAt
  rw [show 2 * i / 2 = i by omega, show 2 * i % 2 = 0 by omega, show (2 * i + 1) / 2 = i by omega, show (2 * i + 1) % 2 = 1 by omega]
  by_cases h0 : pBit d i = 0
  · rw [if_pos h0, h0]
  · have h1 : pBit d i = 1 := by omega
    rw [if_neg h0, h1]
theorem open_sign (seed : List UInt8) (index : Nat) (d : List UInt8) : ∀ k, k ≤ 32 → pOpen d (pParts seed index d 32) (pOthers seed index d 32) k = pubs seed index (2 * k)
  | 0, _ => rfl
  | k + 1, h => by
    rw [pOpen_succ, open_sign seed index d k (by omega), open_at seed index d k (by omega), show 2 * (k + 1) = 2 * k + 1 + 1 by omega, pubs_succ, pubs_succ, List.append_assoc]
theorem open_word (seed : List UInt8) (index : Nat) (d : List UInt8) : pWordOf (pOpen d (pParts seed index d 32) (pOthers seed index d 32) 32) = pWord seed index := by
  rw [open_sign seed index d 32 (by omega)]; rfl
theorem bytes_of_row {w : World} {g : Nat} {L : List UInt8} {t : TypeId} (h : w.heap[g]? = some (.cells (bc L) t (0, 0))) : Bytes w g 0 L := fun j hj => by
  rw [Nat.zero_add, cell_of_row _ _ _ _ _ _ h, bc_at _ _ hj]
/-- What was signed is opened to the word, whatever lies between. -/
theorem opens_calls (seed : List UInt8) (d : List UInt8) (hd : d.length = 32) (index g : Nat) (w : World) (q1 : w.heap[g]? = some (.cells (bc (pParts seed index d 32)) 24 (0, 0))) (q2 : w.heap[g + 1]? = some (.cells (bc (pOthers seed index d 32)) 24 (0, 0))) (tabs : Tabs w) :
    Calls Tryd.prog 34 #[.pointer none, .agg (bc d), .slice (some ⟨g, 0, none⟩) 32 32, .slice (some ⟨g + 1, 0, none⟩) 32 32] w fun e w' => e = .returned (.tuple #[.agg (bc (pWord seed index)), .bool true]) ∧ Below w.heap.size w w' := by
  have h := opened_calls d hd (pParts seed index d 32) (pOthers seed index d 32) (pParts_length _ _ _ _) (pOthers_length _ _ _ _) g 0 32 (g + 1) 0 32 w (Array.getElem?_eq_some_iff.1 q1).1 (Array.getElem?_eq_some_iff.1 q2).1 (bytes_of_row q1) (bytes_of_row q2) tabs
  rw [open_word] at h
  exact h
def awakeCells : Array Value := #[.int .u8 128, .int .u8 0, .int .u8 0, .int .u8 0, .int .u8 0, .int .u8 0, .int .u8 0, .int .u8 0, .int .u8 0, .int .u8 0, .int .u8 0, .int .u8 0, .int .u8 0, .int .u8 0, .int .u8 0, .int .u8 0, .int .u8 0, .int .u8 0, .int .u8 0, .int .u8 0, .int .u8 0, .int .u8 0, .int .u8 0, .int .u8 0, .int .u8 0, .int .u8 0, .int .u8 0, .int .u8 0, .int .u8 0, .int .u8 0, .int .u8 0, .int .u8 0]
set_option maxHeartbeats 1000000 in
set_option maxRecDepth 100000 in
theorem lawake_of (AD : List UInt8) (hd : AD.length = 32) (hbit : pBit AD 0 = 1) (hlit : awakeCells = bc AD) (w : World) (tabs : Tabs w) :
    Calls Tryd.prog 23 #[] w fun e w' => e = .returned (.bool true) ∧ Below w.heap.size w w' := by
  have hi0 := digInfo AD hd
  have hz0 := zeroSize AD hd
  have ho0 := bc_oneCell AD
  have cS := fun w tabs => sign_calls AD hd AD hd 1 1 (by decide) w tabs
  have cO := fun g w q1 q2 tabs => opens_calls AD AD hd 1 g w q1 q2 tabs
  have cW := fun w tabs => word_calls AD hd 1 1 (by decide) w tabs
  have cB := fun w => bit_calls AD hd 0 (by decide) w
  rw [hbit] at cB
  have hW : (pWord AD 1).length = 32 := pOf_length _ _
  have hi1 := digInfo (pWord AD 1) hW
  have hz1 := zeroSize (pWord AD 1) hW
  have ho1 := bc_oneCell (pWord AD 1)
  have eqW := digest_eql (pWord AD 1) hW
  generalize pWord AD 1 = WD at *
  have CS := hide cS
  have CO := hide cO
  have CW := hide cW
  have CB := hide cB
  have HT := hide tabs
  have HLit := hide hlit
  clear cS cO cW cB tabs hbit hlit
  go_enter Tryd.func23, Tryd.ntmps23
  go_wp2_with (first
    | (refine wpList_store_new rfl 24 (.tmp 1) (.tmp 6) rfl w _ _ AD rfl (congrArg Value.agg (unhide HLit)) hi0 hz0 ?_; intro W1 qw hbw zw)
    | (refine wpList_load_row rfl 24 (.tmp 1) rfl w.heap.size rfl 24 _ (0, 0) _ qw Tryd.underlying24 rfl hi0 ?_))
  refine (unhide CS _ ((unhide HT).below hbw (Nat.le_refl _))).mono ?_
  rintro e w2 ⟨g, hg, rfl, b2, q1, q2⟩
  have q0 := Below.at b2 (by omega) qw
  have hb2 := hbw.trans (b2.mono (by omega))
  have hg1 : g + 1 < w2.heap.size := (Array.getElem?_eq_some_iff.1 q2).1
  have tb2 := (unhide HT).below hb2 (Nat.le_refl _)
  clear b2 qw hbw
  go_wp2_with (refine wpList_load_row rfl 24 (.tmp 1) rfl w.heap.size rfl 24 _ (0, 0) _ q0 Tryd.underlying24 rfl hi0 ?_)
  refine (unhide CO g _ q1 q2 tb2).mono ?_
  rintro e w3 ⟨rfl, b3⟩
  have q3 := Below.at b3 (by omega) q0
  have hb3 := hb2.trans (b3.mono (by omega))
  have z3 : w.heap.size < w3.heap.size := by have := b3.size; omega
  clear q0 q1 q2 hb2 tb2 b3
  go_wp2_with (refine wpList_store_new rfl 24 (.tmp 4) (.tmp 18) rfl w3 _ _ WD rfl rfl hi1 hz1 ?_; intro w4 q4 hb4 z4)
  have r4 := Below.at hb4 z3 q3
  have hb5 := hb3.trans (hb4.mono (by omega))
  have tb5 := (unhide HT).below hb5 (Nat.le_refl _)
  have kB : Hid (∀ dd os, Calls Tryd.prog 26 #[.agg (bc AD), .int .i64 0] (Sort.grow (redrawn w4 dd) os) fun e w'' => e = .returned (.int .i64 1) ∧ ∃ p : Regrown, w'' = Sort.grow (redrawn w4 p.d) p.os) := fun dd os => Calls.regrown_of (unhide CB _)
  have kW : Hid (∀ dd os, Calls Tryd.prog 30 #[.pointer none, .agg (bc AD), .int .i64 1] (Sort.grow (redrawn w4 dd) os) fun e w'' => e = .returned (.agg (bc WD)) ∧ ∃ p : Regrown, w'' = Sort.grow (redrawn w4 p.d) p.os) := fun dd os => Calls.regrown_of (unhide CW _ (tb5.below (below_regrown w4 dd os) (Nat.le_refl _)))
  have rowA : Hid (∀ w', (∃ p : Regrown, w' = Sort.grow (redrawn w4 p.d) p.os) → w'.heap[w.heap.size]? = some (.cells (bc AD) 24 (0, 0))) := fun w' ⟨p, hp⟩ => by
    rw [hp]; exact Below.at (below_regrown w4 p.d p.os) (by omega) r4
  have rowW : Hid (∀ w', (∃ p : Regrown, w' = Sort.grow (redrawn w4 p.d) p.os) → w'.heap[w3.heap.size]? = some (.cells (bc WD) 24 (0, 0))) := fun w' ⟨p, hp⟩ => by
    rw [hp]; exact Below.at (below_regrown w4 p.d p.os) (by omega) q4
  have HB5 := hide hb5
  clear r4 q4 q3 hb3 hb4 hb5 tb5 HLit
  refine wp_region_below mixed (by kernel_rfl) ?_
  refine wpQuiet_load_row rfl 24 (.tmp 1) rfl w.heap.size rfl 24 _ (0, 0) _ (unhide rowA) Tryd.underlying24 rfl hi0 ?_
  quiet_step (exact unhide kB _ _)
  quiet_step (fail)
  quiet_step (fail)
  quiet_step (fail)
  quiet_step (fail)
  quiet_step (fail)
  refine wpQuiet_load_row rfl 24 (.tmp 4) rfl w3.heap.size rfl 24 _ (0, 0) _ (unhide rowW) Tryd.underlying24 rfl hi1 ?_
  refine wpQuiet_load_row rfl 24 (.tmp 1) rfl w.heap.size rfl 24 _ (0, 0) _ (unhide rowA) Tryd.underlying24 rfl hi0 ?_
  quiet_step (exact unhide kW _ _)
  refine wpQuiet_eql rfl 24 _ (.tmp 27) (.tmp 29) rfl _ _ rfl rfl Tryd.eqGuardType24 true eqW ?_
  quiet_step (fail)
  quiet_step (fail)
  refine wpQuiet_nil ?_
  intro w6 hb6
  have hb7 := (unhide HB5).trans (hb6.mono (unhide HB5).size)
  go_wp2
  go_ret
  exact ⟨rfl, hb7⟩
theorem lawake_calls (w : World) (tabs : Tabs w) : Calls Tryd.prog 23 #[] w fun e w' => e = .returned (.bool true) ∧ Below w.heap.size w w' :=
  lawake_of (128 :: List.replicate 31 0) rfl (by decide) (by kernel_rfl) w tabs
end Go.Proofs.YtkfhbdcoplemgaaDoor
