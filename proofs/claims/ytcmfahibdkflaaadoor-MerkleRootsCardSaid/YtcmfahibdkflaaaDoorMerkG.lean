/-
  layer 7's awake.
-/
import Derived.Test.YtcmfahibdkflaaaDoorMerkP
namespace Go.Proofs.YtcmfahibdkflaaaDoor
open Go Go.RowKit
set_option linter.unusedSimpArgs false
set_option linter.unusedVariables false

def dig1 : List UInt8 := 1 :: List.replicate 31 0
def dig2 : List UInt8 := 2 :: List.replicate 31 0
theorem two_DL (w : World) : DL (w.alloc (.cells (bc (dig1 ++ dig2)) 24)) (some ⟨w.heap.size, 0, none⟩) [dig1, dig2] := by
  have h := DL_of_flat (w := w.alloc (.cells (bc (dig1 ++ dig2)) 24)) (t := 24) (fun i => if i = 0 then dig1 else dig2) (fun j => by split <;> rfl) 2 (al1 w _)
  exact h
set_option maxHeartbeats 1000000 in
set_option maxRecDepth 100000 in
theorem mawake_core (NN RR : List UInt8) (BR : List (List UInt8))
    (hN : ∀ (w : World), Tabs w → Calls Tryd.prog 14 #[.pointer none, .int .i64 32] w fun e w' => e = .returned (.agg (bc NN)) ∧ Below w.heap.size w w')
    (hO : ∀ (w : World), Tabs w → Calls Tryd.prog 16 #[.pointer none, .slice none 0 0] w fun e w' => e = .returned (.agg (bc NN)) ∧ Below w.heap.size w w')
    (e32 : ∀ w, (binOp .eql 24 (.agg (bc NN)) (.agg (bc NN))).run Tryd.prog w = .ok (.bool true) w)
    (hB : ∀ (w : World), DL (w.alloc (.cells (bc (dig1 ++ dig2)) 24)) (some ⟨w.heap.size, 0, none⟩) [dig1, dig2] → Tabs (w.alloc (.cells (bc (dig1 ++ dig2)) 24)) →
      Calls Tryd.prog 20 #[.pointer none, .slice (some ⟨w.heap.size, 0, none⟩) 2 2, .int .i64 1] (w.alloc (.cells (bc (dig1 ++ dig2)) 24)) fun e w' => (∃ g c, e = .returned (.tuple #[.slice (some ⟨g, 0, none⟩) 32 c, .int .i64 0]) ∧ 32 ≤ c ∧ (w.alloc (.cells (bc (dig1 ++ dig2)) 24)).heap.size ≤ g ∧ DL w' (some ⟨g, 0, none⟩) BR) ∧ Below (w.alloc (.cells (bc (dig1 ++ dig2)) 24)).heap.size (w.alloc (.cells (bc (dig1 ++ dig2)) 24)) w')
    (hOD : ∀ (w : World), DL (w.alloc (.cells (bc (dig1 ++ dig2)) 24)) (some ⟨w.heap.size, 0, none⟩) [dig1, dig2] → Tabs (w.alloc (.cells (bc (dig1 ++ dig2)) 24)) →
      Calls Tryd.prog 16 #[.pointer none, .slice (some ⟨w.heap.size, 0, none⟩) 2 2] (w.alloc (.cells (bc (dig1 ++ dig2)) 24)) fun e w' => e = .returned (.agg (bc RR)) ∧ Below (w.alloc (.cells (bc (dig1 ++ dig2)) 24)).heap.size (w.alloc (.cells (bc (dig1 ++ dig2)) 24)) w')
    (hP : ∀ p c (w : World), DL w p BR → Tabs w → Calls Tryd.prog 25 #[.pointer none, .agg (bc RR), .agg (bc dig2), .int .u32 1, .slice p 32 c] w fun e w' => e = .returned (.bool true) ∧ Below w.heap.size w w')
    (w : World) (tabs : Tabs w) : Calls Tryd.prog 9 #[] w fun e w' => e = .returned (.bool true) ∧ Below w.heap.size w w' := by
  have HT := hide tabs
  have HN := hide hN
  have HO := hide hO
  have HB := hide hB
  have HOD := hide hOD
  have HP := hide hP
  clear tabs hN hO hB hOD hP
  go_enter Tryd.func9, Tryd.ntmps9
  go_wp2_with fail
  change Calls _ _ #[.pointer none, .slice (some ⟨w.heap.size, 0, none⟩) 2 2, .int .i64 1] (w.alloc (.cells (bc (dig1 ++ dig2)) 24)) _
  have b0 : Below w.heap.size w (w.alloc (.cells (bc (dig1 ++ dig2)) 24)) := (Below.refl _ _).alloc (Nat.le_refl _) _
  refine (unhide HB w (two_DL w) ((unhide HT).below b0 (Nat.le_refl _))).mono ?_
  rintro e w1 ⟨⟨g, c, rfl, hc, hg, hdl⟩, hb1⟩
  have b1 : Below w.heap.size w w1 := b0.trans (hb1.mono (by simp))
  have t1 := (unhide HT).below b1 (Nat.le_refl _)
  have HDL := hide hdl
  have HB1 := hide b1
  have T1 := hide t1
  clear hdl b1 t1 hb1 b0 hc hg
  go_wp2_with fail
  refine (unhide HO _ (unhide T1)).mono ?_
  rintro e w2 ⟨rfl, hb2⟩
  have T2 := hide ((unhide T1).below hb2 (Nat.le_refl _))
  have D2 := hide ((unhide HDL).below hb2 (Nat.le_refl _))
  have B2 := hide ((unhide HB1).trans (hb2.mono (unhide HB1).size))
  clear hb2 HDL HB1 T1
  go_wp2_with fail
  refine (unhide HN _ (unhide T2)).mono ?_
  rintro e w3 ⟨rfl, hb3⟩
  have T3 := hide ((unhide T2).below hb3 (Nat.le_refl _))
  have D3 := hide ((unhide D2).below hb3 (Nat.le_refl _))
  have B3 := hide ((unhide B2).trans (hb3.mono (unhide B2).size))
  clear hb3 T2 D2 B2
  go_wp2_with fail
  change Calls _ _ #[.pointer none, .slice (some ⟨w3.heap.size, 0, none⟩) 2 2] (w3.alloc (.cells (bc (dig1 ++ dig2)) 24)) _
  have b3 : Below w3.heap.size w3 (w3.alloc (.cells (bc (dig1 ++ dig2)) 24)) := (Below.refl _ _).alloc (Nat.le_refl _) _
  refine (unhide HOD w3 (two_DL w3) ((unhide T3).below b3 (Nat.le_refl _))).mono ?_
  rintro e w4 ⟨rfl, hb4⟩
  have b4 : Below w3.heap.size w3 w4 := b3.trans (hb4.mono (by simp))
  have T4 := hide ((unhide T3).below b4 (Nat.le_refl _))
  have D4 := hide ((unhide D3).below b4 (Nat.le_refl _))
  have B4 := hide ((unhide B3).trans (b4.mono (unhide B3).size))
  clear hb4 b3 b4 T3 D3 B3
  go_wp2_with fail
  change Calls _ _ #[.pointer none, .agg (bc RR), .agg (bc dig2), .int .u32 1, .slice (some ⟨g, 0, none⟩) 32 c] _ _
  refine (unhide HP _ _ _ (unhide D4) (unhide T4)).mono ?_
  rintro e w5 ⟨rfl, hb5⟩
  have B5 := hide ((unhide B4).trans (hb5.mono (unhide B4).size))
  clear hb5
  go_wp2
  go_ret
  exact ⟨rfl, unhide B5⟩
theorem dig_refl (N : List UInt8) (h : N.length = 32) (w : World) : (binOp .eql 24 (.agg (bc N)) (.agg (bc N))).run Tryd.prog w = .ok (.bool true) w := by
  have := dig_eq N N h h w
  rw [decide_eq_true rfl] at this
  exact this
theorem proves_true (root leaf : List UInt8) (BR : List (List UInt8)) (hr : root.length = 32) (hl : leaf.length = 32) (x : Nat) (hx : x < 4294967296) (h : pProves root leaf x BR = true) (hB : BR.length = 32) (p : Option Addr) (c : Nat) (w : World) (hD : DL w p BR) (tabs : Tabs w) :
    Calls Tryd.prog 25 #[.pointer none, .agg (bc root), .agg (bc leaf), .int .u32 (x : Int), .slice p 32 c] w fun e w' => e = .returned (.bool true) ∧ Below w.heap.size w w' := by
  have := proves_calls root leaf hr hl x hx BR p c (by omega) w hD tabs
  rw [h, hB] at this
  exact this
theorem nought32 (N : List UInt8) (hN : pNought 32 = N) (w : World) (tabs : Tabs w) : Calls Tryd.prog 14 #[.pointer none, .int .i64 32] w fun e w' => e = .returned (.agg (bc N)) ∧ Below w.heap.size w w' := by
  have := nought_calls 32 w tabs
  rw [if_neg (by decide), show (32 : Int).toNat = 32 from rfl, hN] at this
  exact this
theorem of_none (N : List UInt8) (hN : pOfD [] = N) (w : World) (tabs : Tabs w) : Calls Tryd.prog 16 #[.pointer none, .slice none 0 0] w fun e w' => e = .returned (.agg (bc N)) ∧ Below w.heap.size w w' := by
  have := of_calls [] none 0 (by simp) (by simp) w ⟨fun d hd => by simp at hd, fun h => absurd rfl h⟩ tabs
  rw [hN] at this
  exact this
theorem dig12 : ∀ d ∈ [dig1, dig2], d.length = 32 := by intro d hd; simp at hd; rcases hd with rfl | rfl <;> rfl
theorem mawake_calls (w : World) (tabs : Tabs w) : Calls Tryd.prog 9 #[] w fun e w' => e = .returned (.bool true) ∧ Below w.heap.size w w' := by
  obtain ⟨NN, hNN⟩ : ∃ N, pNought 32 = N := ⟨_, rfl⟩
  obtain ⟨RR, hRR⟩ : ∃ N, pOfD [dig1, dig2] = N := ⟨_, rfl⟩
  obtain ⟨BR, hBR⟩ : ∃ N, pBranch [dig1, dig2] 1 = N := ⟨_, rfl⟩
  have hNl : NN.length = 32 := by rw [← hNN]; exact pNought_length 32
  have hRl : RR.length = 32 := by rw [← hRR]; exact pStand_length (pLev_32 _ dig12 32) 0 _ (pNought_length 32)
  have hBl : BR.length = 32 := by rw [← hBR]; exact pBranch_length _ _
  have hpr := branch_proves [dig1, dig2] (by simp) 1 (by simp)
  rw [hRR, hBR, show [dig1, dig2].getD 1 [] = dig2 from rfl] at hpr
  refine mawake_core NN RR BR (nought32 NN hNN) (of_none NN (of_nil.trans hNN)) (dig_refl NN hNl) ?_ ?_ (proves_true RR dig2 BR hRl rfl 1 (by decide) hpr hBl) w tabs
  · intro w hD tb
    have := branch_calls [dig1, dig2] (some ⟨w.heap.size, 0, none⟩) 2 1 (by simp) (by simp) (w.alloc (.cells (bc (dig1 ++ dig2)) 24)) hD tb
    rw [hBR] at this
    exact this
  · intro w hD tb
    have := of_calls [dig1, dig2] (some ⟨w.heap.size, 0, none⟩) 2 (by simp) (by simp) (w.alloc (.cells (bc (dig1 ++ dig2)) 24)) hD tb
    rw [hRR] at this
    exact this
end Go.Proofs.YtcmfahibdkflaaaDoor
