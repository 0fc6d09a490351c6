/-
  WHAT lamport's Secret, Public AND Bit RETURN, where there is no log.
-/
import Derived.Test.YtkfhbdcoplemgaaDoorDigIn
import Derived.Test.YtkfhbdcoplemgaaDoorWireDig
namespace Go.Proofs.YtkfhbdcoplemgaaDoor
open Go.RowKit
set_option linter.unusedSimpArgs false
set_option linter.unusedVariables false

/-- The secret of a place and a bit. -/
def pSecret (seed : List UInt8) (index i b : Nat) : List UInt8 := pOf 1 [seed, pBig index 4, pBig i 1, pBig b 1]
def pPublic (s : List UInt8) : List UInt8 := pOf 2 [s]
theorem pSecret_length (seed : List UInt8) (index i b : Nat) : (pSecret seed index i b).length = 32 := pOf_length _ _
theorem pPublic_length (s : List UInt8) : (pPublic s).length = 32 := pOf_length _ _
theorem strsAt_four (w : World) (l0 l1 l2 l3 : List UInt8) (t : TypeId) : StrsAt (w.alloc (.cells #[.string (str l0), .string (str l1), .string (str l2), .string (str l3)] t)) (some ⟨w.heap.size, 0, none⟩) [l0, l1, l2, l3] := by
  refine .inr ⟨w.heap.size, 0, rfl, by simp, fun j hj => ?_⟩
  match j, hj with
  | 0, _ => go_simp
  | 1, _ => go_simp
  | 2, _ => go_simp
  | 3, _ => go_simp
  | j + 4, hj => simp at hj; omega
set_option maxHeartbeats 2000000 in
set_option maxRecDepth 100000 in
theorem public_calls (s : List UInt8) (hs : s.length = 32) (w : World) (tabs : Tabs w) :
    Calls Tryd.prog 28 #[.pointer none, .agg (bc s)] w fun e w' => e = .returned (.agg (bc (pPublic s))) ∧ Below w.heap.size w w' := by
  have co := fun g w hs tabs => ofNil_calls 2 (by decide) [s] (by simp; omega) (by simp) (some ⟨g, 0, none⟩) 1 w hs tabs
  have hi0 := digInfo s hs
  have hi1 := digInfo (pPublic s) (pPublic_length s)
  have hz1 := zeroSize (pPublic s) (pPublic_length s)
  have ho1 := bc_oneCell (pPublic s)
  have cd := fun w => wdigest_calls s hs w
  have e2 : pOf 2 [s] = pPublic s := rfl
  rw [e2] at co
  generalize pPublic s = D at *
  have CO := hide co
  have CD := hide cd
  have HT := hide tabs
  clear co cd tabs e2
  go_enter Tryd.func28, Tryd.ntmps28
  go_wp2_with (refine wpList_load_row rfl 24 (.tmp 3) rfl w.heap.size rfl 24 _ (0, 0) _ ((Below.heap_alloc _ _ _ (by simp)).trans (al1 w (.cells (bc s) 24))) Tryd.underlying24 rfl hi0 ?_)
  have hb0 : Below w.heap.size w ((w.alloc (.cells (bc s) 24)).alloc (.cells (bc (List.replicate 32 0)) 24)) := ((Below.refl _ w).alloc (Nat.le_refl _) _).alloc (by simp) _
  have q0 : ((w.alloc (.cells (bc s) 24)).alloc (.cells (bc (List.replicate 32 0)) 24)).heap[w.heap.size + 1]? = some (.cells (bc (List.replicate 32 0)) 24 (0, 0)) := by
    have := al1 (w.alloc (.cells (bc s) 24)) (.cells (bc (List.replicate 32 0)) 24); rwa [World.size_alloc] at this
  refine (unhide CD _).mono ?_
  rintro e w1 ⟨rfl, b1⟩
  have q1 := Below.at b1 (by simp) q0
  have hb1 : Below w.heap.size w w1 := hb0.trans (b1.mono (by simp; omega))
  have z1 : w.heap.size + 1 < w1.heap.size := by have := b1.size; simp at this; omega
  clear hb0 b1 q0
  go_wp2_with fail
  refine (unhide CO _ _ (strsAt_one w1 s _) (((unhide HT).below hb1 (Nat.le_refl _)).below' ((Below.refl _ w1).alloc (Nat.le_refl _) _))).mono ?_
  rintro e w2 ⟨rfl, b2⟩
  have q2 := Below.at b2 (by simp; omega) ((Below.heap_alloc w1 (.cells #[.string (str s)] 9) _ z1).trans q1)
  have hb2 : Below w.heap.size w w2 := (hb1.alloc (by omega) _).trans (b2.mono (by simp; omega))
  clear q1 hb1 b2
  go_wp2_with (refine wpList_store_row rfl 24 (.tmp 4) (.tmp 9) rfl (w.heap.size + 1) _ rfl rfl 24 _ q2 hi1 hz1 ho1 ?_)
  exact bodyPost_ret (results_cell_row rfl _ _ (w.heap.size + 1) _ _ _ _ rfl (setRow_heap _ _ _ _ _ _ q2) Tryd.underlying24 rfl hi1) rfl ⟨rfl, below_setRow hb2 (by omega) _⟩
set_option maxHeartbeats 2000000 in
set_option maxRecDepth 100000 in
theorem secret_calls (seed : List UInt8) (hs : seed.length = 32) (x : Int) (index i b : Nat) (hx : x % 4294967296 = (index : Int)) (hi : i < 256) (hb : b < 256) (w : World) (tabs : Tabs w) :
    Calls Tryd.prog 24 #[.pointer none, .agg (bc seed), .int .i64 x, .int .i64 (i : Int), .int .i64 (b : Int)] w fun e w' => e = .returned (.agg (bc (pSecret seed index i b))) ∧ Below w.heap.size w w' := by
  have hpb := pBig_length
  have co := fun g w hs tabs => ofNil_calls 1 (by decide) [seed, pBig index 4, pBig i 1, pBig b 1] (by simp [hpb]; omega) (by simp) (some ⟨g, 0, none⟩) 4 w hs tabs
  have hi0 := digInfo seed hs
  have hi1 := digInfo (pSecret seed index i b) (pSecret_length _ _ _ _)
  have hz1 := zeroSize (pSecret seed index i b) (pSecret_length _ _ _ _)
  have ho1 := bc_oneCell (pSecret seed index i b)
  have hidx : index < 4294967296 := by omega
  have cd := fun w => wdigest_calls seed hs w
  have cw := fun w => wword_calls index hidx w
  have c1 := fun w => wbyte_calls i hi w
  have c2 := fun w => wbyte_calls b hb w
  have m1 : (i : Int) % 256 = (i : Int) := by omega
  have m2 : (b : Int) % 256 = (b : Int) := by omega
  have e2 : pOf 1 [seed, pBig index 4, pBig i 1, pBig b 1] = pSecret seed index i b := rfl
  rw [e2] at co
  generalize pSecret seed index i b = D at *
  generalize pBig index 4 = B4 at *
  generalize pBig i 1 = B1 at *
  generalize pBig b 1 = B2 at *
  have CO := hide co
  have CD := hide cd
  have CW := hide cw
  have C1 := hide c1
  have C2 := hide c2
  have HT := hide tabs
  clear co cd cw c1 c2 tabs e2 hpb
  go_enter Tryd.func24, Tryd.ntmps24
  go_wp2_with (refine wpList_load_row rfl 24 (.tmp 6) rfl w.heap.size rfl 24 _ (0, 0) _ ((Below.heap_alloc _ _ _ (by simp)).trans (al1 w (.cells (bc seed) 24))) Tryd.underlying24 rfl hi0 ?_)
  have hb0 : Below w.heap.size w ((w.alloc (.cells (bc seed) 24)).alloc (.cells (bc (List.replicate 32 0)) 24)) := ((Below.refl _ w).alloc (Nat.le_refl _) _).alloc (by simp) _
  have q0 : ((w.alloc (.cells (bc seed) 24)).alloc (.cells (bc (List.replicate 32 0)) 24)).heap[w.heap.size + 1]? = some (.cells (bc (List.replicate 32 0)) 24 (0, 0)) := by
    have := al1 (w.alloc (.cells (bc seed) 24)) (.cells (bc (List.replicate 32 0)) 24); rwa [World.size_alloc] at this
  refine (unhide CD _).mono ?_
  rintro e w1 ⟨rfl, b1⟩
  have q1 := Below.at b1 (by simp) q0
  have hb1 : Below w.heap.size w w1 := hb0.trans (b1.mono (by simp; omega))
  have z1 : w.heap.size + 1 < w1.heap.size := by have := b1.size; simp at this; omega
  clear hb0 b1 q0
  go_wp2_with fail
  refine (unhide CW _).mono ?_
  rintro e w2 ⟨rfl, b2⟩
  have q2 := Below.at b2 z1 q1
  have hb2 := hb1.trans (b2.mono (by omega))
  have z2 : w.heap.size + 1 < w2.heap.size := Nat.lt_of_lt_of_le z1 b2.size
  clear hb1 b2 q1 z1
  go_wp2_with fail
  refine (unhide C1 _).mono ?_
  rintro e w3 ⟨rfl, b3⟩
  have q3 := Below.at b3 z2 q2
  have hb3 := hb2.trans (b3.mono (by omega))
  have z3 : w.heap.size + 1 < w3.heap.size := Nat.lt_of_lt_of_le z2 b3.size
  clear hb2 b3 q2 z2
  go_wp2_with fail
  refine (unhide C2 _).mono ?_
  rintro e w4 ⟨rfl, b4⟩
  have q4 := Below.at b4 z3 q3
  have hb4 := hb3.trans (b4.mono (by omega))
  have z4 : w.heap.size + 1 < w4.heap.size := Nat.lt_of_lt_of_le z3 b4.size
  clear hb3 b4 q3 z3
  go_wp2_with fail
  refine (unhide CO _ _ (strsAt_four w4 seed B4 B1 B2 _) (((unhide HT).below hb4 (Nat.le_refl _)).below' ((Below.refl _ w4).alloc (Nat.le_refl _) _))).mono ?_
  rintro e w5 ⟨rfl, b5⟩
  have q5 := Below.at b5 (by simp; omega) ((Below.heap_alloc w4 (.cells #[.string (str seed), .string (str B4), .string (str B1), .string (str B2)] 9) _ z4).trans q4)
  have hb5 : Below w.heap.size w w5 := (hb4.alloc (by omega) _).trans (b5.mono (by simp; omega))
  clear q4 hb4 b5
  go_wp2_with (refine wpList_store_row rfl 24 (.tmp 10) (.tmp 24) rfl (w.heap.size + 1) _ rfl rfl 24 _ q5 hi1 hz1 ho1 ?_)
  exact bodyPost_ret (results_cell_row rfl _ _ (w.heap.size + 1) _ _ _ _ rfl (setRow_heap _ _ _ _ _ _ q5) Tryd.underlying24 rfl hi1) rfl ⟨rfl, below_setRow hb5 (by omega) _⟩
end Go.Proofs.YtkfhbdcoplemgaaDoor
