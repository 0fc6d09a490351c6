/-
  UpdateBinds: another update with an update's signature isn't right under the signer's root, unless it says the same, or tells the same bits, or two inputs clash.
-/
/-
  WHAT THE ROWS OF LAYER 1 LIST GIVES THE WALKS: the two tables of package sha, read as the program's text lays them.
-/
import Derived.Test.YtdkaphebdkdfhaaDoorJ8
import Derived.Test.YtdkaphebdkdfhaaDoorJ10
import Derived.Test.YtdkaphebdkdfhaaDoorJ0
import Derived.Test.YtdkaphebdkdfhaaDoorCards
import Derived.Test.YtdkaphebdkdfhaaDoorTie
import Derived.ProofKit
import Derived.OpenShut
import Derived.Deep.DeepHandedRow
import Derived.Lib.LaidTab
namespace Go.Proofs.YtdkaphebdkdfhaaDoor
open Go Go.RowKit
set_option linter.unusedSimpArgs false
set_option linter.unusedVariables false

set_option maxHeartbeats 16000000 in
set_option maxRecDepth 100000 in
theorem updateBinds_walk (s : List UInt8) (hs : s.length = 32) (home h2 : Nat) (hh : home < 4294967296) (hh2 : h2 < 4294967296) (a b c d : List UInt8) (ha : a.length = 32) (hb : b.length = 32) (hc : c.length = 32) (hd : d.length = 32) (w : World) (tabs : Tabs w) :
    Calls Tryd.prog 4 #[.agg (bc s), .int .u32 (home : Int), .int .u32 (h2 : Int), .agg (bc a), .agg (bc b), .agg (bc c), .agg (bc d)] w fun e w' => e = .returned (.bool true) ∧ Below w.heap.size w w' := by
  have hi0 := digInfo s hs
  have hi1 := digInfo a ha
  have hi2 := digInfo b hb
  have hi3 := digInfo c hc
  have hi4 := digInfo d hd
  have e0 : ((0 : Nat) : Int) = 0 := rfl
  have CA := hide fun W t => uawake_calls W t
  have CN := hide fun W t => new_calls s hs W t
  have CM := hide fun L S I hI W hL => rnew6Q_calls s hs L S I hI W hL
  have CR := hide fun p c L S I hI W hL ol hD => rroot6Q_calls s hs 0 (pLeaves s) (pLeaves_len s) (pLeaves_32 s) p c L S I hI W hL ol hD
  have cu0 := fun b' off c' W hD t => usign_calls s hs 0 (by decide) (pLeaves s) (pLeaves_len s) b' off c' home hh a b ha hb W hD t
  rw [e0] at cu0
  have CU := hide cu0
  have CS1 := hide fun S cs W h t => right_sig s hs (pClaim home a b) (pOf_length _ _) home hh a b ha hb S cs W h t
  have CS2 := hide fun S cs W h t => right_sig s hs (pClaim home a b) (pOf_length _ _) h2 hh2 c d hc hd S cs W h t
  have CQ := hide fun cs L S I hI W hL h => rrightQ_sig s hs (pClaim home a b) (pOf_length _ _) h2 hh2 c d hc hd cs L S I hI W hL h
  have CC1 := hide fun L S I hI W hL => rclaimQ_calls home hh a b ha hb L S I hI W hL
  have CC2 := hide fun L S I hI W hL => rclaimQ_calls h2 hh2 c d hc hd L S I hI W hL
  have hD1 : (pClaim home a b).length = 32 := pOf_length _ _
  have hD2 : (pClaim h2 c d).length = 32 := pOf_length _ _
  have hself : uOk s (pClaim home a b) (pClaim home a b) = true := by unfold uOk; exact decide_eq_true (kOk_same s 0 (by decide) _ _ (fun _ _ => rfl))
  have hsame : Hid ((home = h2 ∧ a = c ∧ b = d) → uOk s (pClaim home a b) (pClaim h2 c d) = true) := hide fun ⟨e1, e2, e3⟩ => by rw [← e1, ← e2, ← e3]; exact hself
  have hbits : Hid ((∀ i, i < 4 → (pClaim home a b).getD i 0 = (pClaim h2 c d).getD i 0) → uOk s (pClaim home a b) (pClaim h2 c d) = true) := hide fun h => by unfold uOk; exact decide_eq_true (kOk_same s 0 (by decide) _ _ ((bits_bytes _ _).2 h))
  have hok2 : Hid (uOk s (pClaim home a b) (pClaim h2 c d) = true → kOk s 0 (pClaim home a b) (pClaim h2 c d)) := hide fun h4 => by unfold uOk at h4; have h5 := of_decide_eq_true h4; exact h5
  have hclash : Hid (∀ J, WAll s 16 J → VNot (pClaim h2 c d) (pParts s 0 (pClaim home a b) 32) (pOthers s 0 (pClaim home a b) 32) 0 (kPath (pLeaves s) 0) J → KNoted (pLeaves s) 4 0 J → uOk s (pClaim home a b) (pClaim h2 c d) = true → (¬ ∀ i, i < 4 → (pClaim home a b).getD i 0 = (pClaim h2 c d).getD i 0) → cnt J < J.length) := hide fun J h1 h2' h3 h4 h5 => kOk_clash s hs 0 (by decide) _ _ J h1 h2' h3 (unhide hok2 h4) (fun h6 => h5 ((bits_bytes _ _).1 h6))
  have hmono : Hid (∀ J J' : List (List UInt8), (∀ s ∈ J, s ∈ J') → (WAll s 16 J → WAll s 16 J') ∧ (KNoted (pLeaves s) 4 0 J → KNoted (pLeaves s) 4 0 J') ∧ (VNot (pClaim h2 c d) (pParts s 0 (pClaim home a b) 32) (pOthers s 0 (pClaim home a b) 32) 0 (kPath (pLeaves s) 0) J → VNot (pClaim h2 c d) (pParts s 0 (pClaim home a b) 32) (pOthers s 0 (pClaim home a b) 32) 0 (kPath (pLeaves s) 0) J')) := hide fun J J' h => ⟨fun g j hj => ⟨(g j hj).1.mono h, h _ (g j hj).2⟩, fun g => g.mono h, fun g => ⟨fun j hj => h _ (g.1 j hj), h _ g.2.1, fun k hk => h _ (g.2.2 k hk)⟩⟩
  rw [hself] at CS1
  clear hok2
  have hRl := kRoot_length (pLeaves s) (pLeaves_len s)
  have hiR := digInfo _ hRl
  have hzR := zeroSize _ hRl
  have hdn : Hid (pLeaves s ≠ []) := hide (by intro h; have := pLeaves_len s; rw [h] at this; simp at this)
  have hsi := hide fun n v => sgc_info s hs n v
  have hso := hide fun n p l c => sgc_one s n p l c
  have hsz := hide fun n v => sg0_size s hs n v
  generalize VNot (pClaim h2 c d) (pParts s 0 (pClaim home a b) 32) (pOthers s 0 (pClaim home a b) 32) 0 (kPath (pLeaves s) 0) = VN at *
  generalize uOk s (pClaim home a b) (pClaim h2 c d) = ok at *
  have hiD1 := digInfo _ hD1
  have hzD1 := zeroSize _ hD1
  have hiD2 := digInfo _ hD2
  have hzD2 := zeroSize _ hD2
  have HD1L := hide hD1
  have HD2L := hide hD2
  have hoD1 := bc_oneCell (pClaim home a b)
  have hoD2 := bc_oneCell (pClaim h2 c d)
  obtain ⟨J1, hJ1⟩ : ∃ J, pInput 7 [pBig home 4, a, b] = J := ⟨_, rfl⟩
  obtain ⟨J2, hJ2⟩ : ∃ J, pInput 7 [pBig h2 4, c, d] = J := ⟨_, rfl⟩
  rw [hJ1] at CC1
  rw [hJ2] at CC2
  generalize pClaim home a b = D1 at *
  generalize pClaim h2 c d = D2 at *
  generalize KNoted (pLeaves s) 4 0 = KN at *
  generalize WAll s 16 = WA at *
  generalize kRoot (pLeaves s) = RT at *
  generalize pLeaves s = LV at *
  obtain ⟨q0, q1, q2⟩ := al3 w (.cells (bc s) 23) (.cells (bc a) 23) (.cells (bc b) 23)
  have b03 := bel3 w (.cells (bc s) 23) (.cells (bc a) 23) (.cells (bc b) 23)
  have z03 : (((w.alloc (.cells (bc s) 23)).alloc (.cells (bc a) 23)).alloc (.cells (bc b) 23)).heap.size = w.heap.size + 1 + 1 + 1 := by simp
  obtain ⟨q3, q4⟩ := al2 (((w.alloc (.cells (bc s) 23)).alloc (.cells (bc a) 23)).alloc (.cells (bc b) 23)) (.cells (bc c) 23) (.cells (bc d) 23)
  have b35 := bel2 (((w.alloc (.cells (bc s) 23)).alloc (.cells (bc a) 23)).alloc (.cells (bc b) 23)) (.cells (bc c) 23) (.cells (bc d) 23)
  obtain ⟨X3, hX3⟩ : ∃ X, (((w.alloc (.cells (bc s) 23)).alloc (.cells (bc a) 23)).alloc (.cells (bc b) 23)) = X := ⟨_, rfl⟩
  rw [hX3] at q0 q1 q2 q3 q4 b03 b35 z03
  rw [z03] at q3 q4
  obtain ⟨X, hX⟩ : ∃ X, (X3.alloc (.cells (bc c) 23)).alloc (.cells (bc d) 23) = X := ⟨_, rfl⟩
  rw [hX] at q3 q4 b35
  have q0 := Below.at b35 (by omega) q0
  have q1 := Below.at b35 (by omega) q1
  have q2 := Below.at b35 (by omega) q2
  have B0 := hide (b03.trans (b35.mono b03.size))
  have HX := hide hX
  have HX3 := hide hX3
  have TX := tabs.below (unhide B0) (Nat.le_refl _)
  clear cu0 e0 hD1 hD2 hself hRl hJ1 hJ2 hX3 hX b03 b35 z03 tabs
  go_enter Tryd.func4, Tryd.ntmps4
  go_upto_region 1 with fail
  change Code.wp _ _ _ _ (((((w.alloc (.cells (bc s) 23)).alloc (.cells (bc a) 23)).alloc (.cells (bc b) 23)).alloc (.cells (bc c) 23)).alloc (.cells (bc d) 23))
  rw [unhide HX3, unhide HX]
  go_wp2_with fail
  refine (unhide CA _ TX).mono ?_
  rintro e1 w1 ⟨rfl, b1⟩
  have p0 := hide (Below.at b1 (Array.getElem?_eq_some_iff.1 q0).1 q0)
  have p1 := hide (Below.at b1 (Array.getElem?_eq_some_iff.1 q1).1 q1)
  have p2 := hide (Below.at b1 (Array.getElem?_eq_some_iff.1 q2).1 q2)
  have p3 := hide (Below.at b1 (Array.getElem?_eq_some_iff.1 q3).1 q3)
  have p4 := hide (Below.at b1 (Array.getElem?_eq_some_iff.1 q4).1 q4)
  have B1 := hide ((unhide B0).trans (b1.mono (unhide B0).size))
  have T1 := hide (TX.below b1 (Nat.le_refl _))
  clear q0 q1 q2 q3 q4 b1 TX HX HX3 B0
  go_wp2_with fail
  refine (rnewLog_calls _).mono ?_
  rintro e1 w4 ⟨rfl, hL4, b4, z4⟩
  obtain ⟨L, hLL⟩ : ∃ B, w1.heap.size + 1 = B := ⟨_, rfl⟩
  obtain ⟨S4, hS4⟩ : ∃ S : Nat → Prop, (fun k => w1.heap.size ≤ k ∧ k < w1.heap.size + 2) = S := ⟨_, rfl⟩
  have HS4 : ∀ k, S4 k → w1.heap.size ≤ k := fun k h => by rw [← hS4] at h; exact h.1
  rw [hLL, hS4] at hL4
  rw [hLL]
  have st4 : Hid (WSt w1 L w4 S4 [] 0) := hide ⟨b4, hL4, HS4, by simp⟩
  have r04 : Hid (Kept w4 S4 (w.heap.size) (.cells (bc s) 23 (0, 0))) := hide ⟨Below.at b4 (Array.getElem?_eq_some_iff.1 (unhide p0)).1 (unhide p0), fun h => by have := HS4 _ h; have := (Array.getElem?_eq_some_iff.1 (unhide p0)).1; omega⟩
  have r14 : Hid (Kept w4 S4 (w.heap.size + 1) (.cells (bc a) 23 (0, 0))) := hide ⟨Below.at b4 (Array.getElem?_eq_some_iff.1 (unhide p1)).1 (unhide p1), fun h => by have := HS4 _ h; have := (Array.getElem?_eq_some_iff.1 (unhide p1)).1; omega⟩
  have r24 : Hid (Kept w4 S4 (w.heap.size + 1 + 1) (.cells (bc b) 23 (0, 0))) := hide ⟨Below.at b4 (Array.getElem?_eq_some_iff.1 (unhide p2)).1 (unhide p2), fun h => by have := HS4 _ h; have := (Array.getElem?_eq_some_iff.1 (unhide p2)).1; omega⟩
  have r34 : Hid (Kept w4 S4 (w.heap.size + 1 + 1 + 1) (.cells (bc c) 23 (0, 0))) := hide ⟨Below.at b4 (Array.getElem?_eq_some_iff.1 (unhide p3)).1 (unhide p3), fun h => by have := HS4 _ h; have := (Array.getElem?_eq_some_iff.1 (unhide p3)).1; omega⟩
  have r44 : Hid (Kept w4 S4 (w.heap.size + 1 + 1 + 1 + 1) (.cells (bc d) 23 (0, 0))) := hide ⟨Below.at b4 (Array.getElem?_eq_some_iff.1 (unhide p4)).1 (unhide p4), fun h => by have := HS4 _ h; have := (Array.getElem?_eq_some_iff.1 (unhide p4)).1; omega⟩
  clear hL4 b4 z4 hLL hS4 HS4 p0 p1 p2 p3 p4
  go_wp2_with (refine wpList_load_row rfl 23 (.tmp 7) rfl (w.heap.size) rfl 23 _ (0, 0) _ (unhide r04).1 Tryd.underlying23 rfl hi0 ?_)
  refine (unhide CN _ ((unhide T1).below (unhide st4).bw (Nat.le_refl _))).mono ?_
  rintro e1 w5 ⟨rfl, hD5, b5⟩
  have st5 := hide ((unhide st4).below b5)
  have r05 := hide ((unhide r04).below b5)
  have r15 := hide ((unhide r14).below b5)
  have r25 := hide ((unhide r24).below b5)
  have r35 := hide ((unhide r34).below b5)
  have r45 := hide ((unhide r44).below b5)
  obtain ⟨G0, hG0⟩ : ∃ G, w4.heap.size + 1 + 1 = G := ⟨_, rfl⟩
  have HO5 : Hid (Out (some ⟨G0, 0, none⟩) S4) := hide fun a' e hS => by cases e; have := (unhide st4).log.old _ hS; rw [← hG0] at this; simp at this; omega
  rw [hG0] at hD5
  rw [hG0]
  have HD5 := hide hD5
  have i1 := unhide hsi 0 (.slice (some ⟨G0, 0, none⟩) 16 16)
  have o1 := unhide hso 0 (some ⟨G0, 0, none⟩) 16 16
  have z1 := unhide hsz 0 (.slice (some ⟨G0, 0, none⟩) 16 16)
  have cu1 := unhide CU G0 0 16
  obtain ⟨C1, hC1⟩ : ∃ C, sgc s 0 (.slice (some ⟨G0, 0, none⟩) 16 16) = C := ⟨_, rfl⟩
  rw [hC1] at i1 o1 z1 cu1
  rw [hC1]
  have CU1 := hide cu1
  clear hG0 hC1 cu1 hD5 b5 CU r04 r14 r24 r34 r44
  go_upto_region 5 with (refine wpList_store_newV rfl 31 (.tmp 16) (.tmp 32) rfl w5 sg0 _ C1 rfl rfl i1 z1 o1 ?_; intro w6 q6 b6 zz6)
  have st6 := hide ((unhide st5).below b6)
  have k166 : Hid (Kept w6 S4 w5.heap.size (.cells C1 31 (0, 0))) := hide (Kept.new (unhide st5).log (Nat.le_refl _) q6)
  have HD6 := hide ((unhide HD5).below b6 (Nat.le_refl _))
  have r06 := hide ((unhide r05).below b6)
  have r16 := hide ((unhide r15).below b6)
  have r26 := hide ((unhide r25).below b6)
  have r36 := hide ((unhide r35).below b6)
  have r46 := hide ((unhide r45).below b6)
  obtain ⟨G16, hG16⟩ : ∃ G, w5.heap.size = G := ⟨_, rfl⟩
  rw [hG16] at k166
  simp only [hG16]
  clear q6 b6 zz6 hG16 HD5 r05 r15 r25 r35 r45 st4 st5
  go_wp2_with (refine wpList_load_row rfl 23 (.tmp 7) rfl (w.heap.size) rfl 23 _ (0, 0) _ (unhide r06).1 Tryd.underlying23 rfl hi0 ?_)
  refine (unhide CM L S4 [] (by simp) _ (unhide st6).log).mono ?_
  rintro e1 w7 ⟨p7, c7, S7, I7, rfl, hD7, hL7, hB7, hM7, hO7, mo7, wa7, le7⟩
  have st7 := hide ((unhide st6).step hL7 hB7 hM7 le7)
  have HDL7 := hide ((unhide HD6).rbut hB7 (fun _ => unhide HO5))
  have HO7 := hide (Out.step (unhide HO5) (unhide HD6) hM7 (unhide hdn))
  have WA7 := hide wa7
  have HD7 := hide hD7
  have HP7 := hide hO7
  have r07 := hide ((unhide r06).step hB7 hM7)
  have r17 := hide ((unhide r16).step hB7 hM7)
  have r27 := hide ((unhide r26).step hB7 hM7)
  have r37 := hide ((unhide r36).step hB7 hM7)
  have r47 := hide ((unhide r46).step hB7 hM7)
  have k167 := hide ((unhide k166).step hB7 hM7)
  clear hD7 hL7 hB7 hM7 hO7 mo7 wa7 le7 r06 r16 r26 r36 r46 k166 HD6 HO5 st6 CM
  go_wp2_with fail
  refine (unhide CR p7 c7 L S7 I7 (by have := (unhide st7).len; omega) _ (unhide st7).log (unhide HP7) (unhide HD7)).mono ?_
  rintro e1 w8 ⟨rfl, S8, I8, hL8, hB8, hM8, mo8, kn8, le8⟩
  have st8 := hide ((unhide st7).step hL8 hB8 hM8 le8)
  have HDL8 := hide ((unhide HDL7).rbut hB8 (fun _ => unhide HO7))
  have HO8 := hide (Out.step (unhide HO7) (unhide HDL7) hM8 (unhide hdn))
  have MO8 := hide mo8
  have KN8 := hide kn8
  have r08 := hide ((unhide r07).step hB8 hM8)
  have r18 := hide ((unhide r17).step hB8 hM8)
  have r28 := hide ((unhide r27).step hB8 hM8)
  have r38 := hide ((unhide r37).step hB8 hM8)
  have r48 := hide ((unhide r47).step hB8 hM8)
  have k168 := hide ((unhide k167).step hB8 hM8)
  clear hL8 hB8 hM8 mo8 kn8 le8 r07 r17 r27 r37 r47 k167 HDL7 HO7 HD7 HP7 st7 CR
  go_upto_region 6 with (refine wpList_store_new rfl 23 (.tmp 17) (.tmp 37) rfl w8 _ _ RT rfl rfl hiR hzR ?_; intro w9 q9 b9 y9)
  have st9 := hide ((unhide st8).below b9)
  have k179 : Hid (Kept w9 S8 w8.heap.size (.cells (bc RT) 23 (0, 0))) := hide (Kept.new (unhide st8).log (Nat.le_refl _) q9)
  have HDL9 := hide ((unhide HDL8).below b9 (Nat.le_refl _))
  have r09 := hide ((unhide r08).below b9)
  have r19 := hide ((unhide r18).below b9)
  have r29 := hide ((unhide r28).below b9)
  have r39 := hide ((unhide r38).below b9)
  have r49 := hide ((unhide r48).below b9)
  have k169 := hide ((unhide k168).below b9)
  obtain ⟨G17, hG17⟩ : ∃ G, w8.heap.size = G := ⟨_, rfl⟩
  rw [hG17] at k179
  simp only [hG17]
  clear q9 b9 y9 hG17 r08 r18 r28 r38 r48 k168 HDL8 st8
  go_wp2_with (first
    | (refine wpList_load_row rfl 31 (.tmp 16) rfl G16 rfl 31 C1 (0, 0) _ (unhide k169).1 Tryd.underlying31 rfl i1 ?_)
    | (refine wpList_load_row rfl 23 (.tmp 10) rfl (w.heap.size + 1) rfl 23 _ (0, 0) _ (unhide r19).1 Tryd.underlying23 rfl hi1 ?_)
    | (refine wpList_load_row rfl 23 (.tmp 11) rfl (w.heap.size + 1 + 1) rfl 23 _ (0, 0) _ (unhide r29).1 Tryd.underlying23 rfl hi2 ?_))
  refine (unhide CU1 _ (unhide HDL9) ((unhide T1).below (unhide st9).bw (Nat.le_refl _))).mono ?_
  rintro e1 wA ⟨⟨gc, cap, cs, rfl, hgc, hDc, hSc⟩, bA⟩
  have stA := hide ((unhide st9).below bA)
  have sgA := hide (SigK.of hSc (unhide st9).log.old)
  have r0A := hide ((unhide r09).below bA)
  have r1A := hide ((unhide r19).below bA)
  have r2A := hide ((unhide r29).below bA)
  have r3A := hide ((unhide r39).below bA)
  have r4A := hide ((unhide r49).below bA)
  have k17A := hide ((unhide k179).below bA)
  have hcz := hSc.size
  have hcz4 := hide hcz.1
  have huz := updc_size home a b ha hb cs hcz.1
  have hui : (Tryd.prog.info? 45).map (·.size) = some (updc home a b cs).size := by rw [huz]; kernel_rfl
  have huq : updZ.size = (updc home a b cs).size := by rw [huz]; exact updc_size 0 _ _ (by simp) (by simp) _ rfl
  have huo := updc_one home a b cs hcz.2
  have i2 := unhide hsi (0 + 1) (.slice (some ⟨gc, 0, none⟩) 16 cap)
  have o2 := unhide hso (0 + 1) (some ⟨gc, 0, none⟩) 16 cap
  have z2 := unhide hsz (0 + 1) (.slice (some ⟨gc, 0, none⟩) 16 cap)
  obtain ⟨C2, hC2⟩ : ∃ C, sgc s (0 + 1) (.slice (some ⟨gc, 0, none⟩) 16 cap) = C := ⟨_, rfl⟩
  obtain ⟨UC, hUC⟩ : ∃ U, updc home a b cs = U := ⟨_, rfl⟩
  rw [hC2] at i2 o2 z2
  rw [hUC] at hui huq huo
  rw [hC2, hUC]
  have HUC := hide hUC
  obtain ⟨a0, a1⟩ := al2 wA (.cells sg0 31) (.cells updZ 45)
  have s1 := (setRow_other ((wA.alloc (.cells sg0 31)).alloc (.cells updZ 45)) wA.heap.size (wA.heap.size + 1) C2 (by omega)).trans a1
  have s2 := setRow_heap _ _ _ UC _ _ s1
  have bX : Below wA.heap.size wA ((((wA.alloc (.cells sg0 31)).alloc (.cells updZ 45)).setRow wA.heap.size C2).setRow (wA.heap.size + 1) UC) := below_setRow (below_setRow (bel2 wA _ _) (Nat.le_refl _) _) (by omega) _
  clear hcz huz hUC hC2 hSc bA hDc hgc r09 r19 r29 r39 r49 k179 k169 HDL9 st9 HO8
  go_upto_region 7 with (first
    | (refine wpList_store_row rfl 31 (.tmp 18) (.tmp 44) rfl wA.heap.size C2 rfl rfl 31 _ a0 i2 z2 o2 ?_)
    | (refine wpList_store_row rfl 45 (.tmp 19) (.tmp 45) rfl (wA.heap.size + 1) UC rfl rfl 45 _ s1 hui huq huo ?_))
  obtain ⟨wB, hX⟩ : ∃ X, (((wA.alloc (.cells sg0 31)).alloc (.cells updZ 45)).setRow wA.heap.size C2).setRow (wA.heap.size + 1) UC = X := ⟨_, rfl⟩
  change Code.wp _ _ _ _ ((((wA.alloc (.cells sg0 31)).alloc (.cells updZ 45)).setRow wA.heap.size C2).setRow (wA.heap.size + 1) UC)
  rw [hX] at s2 bX
  rw [hX]
  have stB := hide ((unhide stA).below bX)
  have sgB := hide ((unhide sgA).below bX)
  have k19B : Hid (Kept wB S8 (wA.heap.size + 1) (.cells UC 45 (0, 0))) := hide (Kept.new (unhide stA).log (by omega) s2)
  have r0B := hide ((unhide r0A).below bX)
  have r1B := hide ((unhide r1A).below bX)
  have r2B := hide ((unhide r2A).below bX)
  have r3B := hide ((unhide r3A).below bX)
  have r4B := hide ((unhide r4A).below bX)
  have k17B := hide ((unhide k17A).below bX)
  obtain ⟨G19, hG19⟩ : ∃ G, wA.heap.size + 1 = G := ⟨_, rfl⟩
  obtain ⟨G18, hG18⟩ : ∃ G, wA.heap.size = G := ⟨_, rfl⟩
  rw [hG19] at k19B
  rw [hG19, hG18]
  clear hX a0 a1 s1 s2 bX hG19 hG18 r0A r1A r2A r3A r4A k17A sgA stA
  go_upto_region 8 with (first
    | (refine wpList_load_row rfl 45 (.tmp 19) rfl G19 rfl 45 UC (0, 0) _ (unhide k19B).1 Tryd.underlying45 rfl hui ?_)
    | (refine wpList_store_newV rfl 45 (.tmp 21) (.tmp 47) rfl wB updZ _ UC rfl rfl hui huq huo ?_; intro wC qC bC zzC))
  have stC := hide ((unhide stB).below bC)
  have sgC := hide ((unhide sgB).below bC)
  have k21C : Hid (Kept wC S8 wB.heap.size (.cells UC 45 (0, 0))) := hide (Kept.new (unhide stB).log (Nat.le_refl _) qC)
  have r0C := hide ((unhide r0B).below bC)
  have r1C := hide ((unhide r1B).below bC)
  have r2C := hide ((unhide r2B).below bC)
  have r3C := hide ((unhide r3B).below bC)
  have r4C := hide ((unhide r4B).below bC)
  have k17C := hide ((unhide k17B).below bC)
  have k19C := hide ((unhide k19B).below bC)
  obtain ⟨G21, hG21⟩ : ∃ G, wB.heap.size = G := ⟨_, rfl⟩
  have hlo21 : Hid (w1.heap.size ≤ G21) := hide (by rw [← hG21]; exact (unhide stB).bw.size)
  have hne21 : Hid (∀ k o, Kept wB S8 k o → k ≠ G21) := hide fun k o h e => by have := h.lt; omega
  have d17 := hide (unhide hne21 _ _ (unhide k17B))
  have d19 := hide (unhide hne21 _ _ (unhide k19B))
  have d0 := hide (unhide hne21 _ _ (unhide r0B))
  have d1 := hide (unhide hne21 _ _ (unhide r1B))
  have d2 := hide (unhide hne21 _ _ (unhide r2B))
  have d3 := hide (unhide hne21 _ _ (unhide r3B))
  have d4 := hide (unhide hne21 _ _ (unhide r4B))
  rw [hG21] at k21C
  simp only [hG21]
  clear qC bC zzC hG21 hne21 r0B r1B r2B r3B r4B k17B k19B sgB stB
  have c0C : wC.cell? ⟨G21, 0, none⟩ = some (.int .u32 (home : Int)) := by rw [cell_of_row _ _ _ _ _ _ (unhide k21C).1, ← unhide HUC]; exact updc_home home a b cs
  go_wp2_with fail
  clear c0C
  obtain ⟨SS, hSS⟩ : ∃ SS : World → Prop, SS = fun W => W.heap[w.heap.size + 1 + 1 + 1]? = some (.cells (bc c) 23 (0, 0)) ∧ W.heap[w.heap.size + 1 + 1 + 1 + 1]? = some (.cells (bc d) 23 (0, 0)) := ⟨_, rfl⟩
  have HSS : Hid (∀ W : World, SS W ↔ (W.heap[w.heap.size + 1 + 1 + 1]? = some (.cells (bc c) 23 (0, 0)) ∧ W.heap[w.heap.size + 1 + 1 + 1 + 1]? = some (.cells (bc d) 23 (0, 0)))) := hide fun W => by rw [hSS]
  clear hSS
  have sr3 : Hid (∀ W, SS W → W.heap[w.heap.size + 1 + 1 + 1]? = some (.cells (bc c) 23 (0, 0))) := hide fun W h => ((unhide HSS W).1 h).1
  have sr4 : Hid (∀ W, SS W → W.heap[w.heap.size + 1 + 1 + 1 + 1]? = some (.cells (bc d) 23 (0, 0))) := hide fun W h => ((unhide HSS W).1 h).2
  have hS0 : SS ({ wC with drawn := wC.drawn + 1 } : World) := (unhide HSS _).2 ⟨(unhide r3C).1, (unhide r4C).1⟩
  have Sd0 : Below wC.heap.size wC ({ wC with drawn := wC.drawn + 1 } : World) := ⟨rfl, rfl, rfl, Nat.le_refl _, fun _ _ => rfl⟩
  refine wp_region_held (S := SS) mixed ?_
  obtain ⟨dC, hd0⟩ : ∃ d, { wC with drawn := wC.drawn + 1 } = d := ⟨_, rfl⟩
  rw [hd0] at Sd0 hS0
  rw [hd0]
  have stD := hide ((unhide stC).below Sd0)
  have sgD := hide ((unhide sgC).below Sd0)
  have r0D := hide ((unhide r0C).below Sd0)
  have r1D := hide ((unhide r1C).below Sd0)
  have r2D := hide ((unhide r2C).below Sd0)
  have r3D := hide ((unhide r3C).below Sd0)
  have r4D := hide ((unhide r4C).below Sd0)
  have k17D := hide ((unhide k17C).below Sd0)
  have k19D := hide ((unhide k19C).below Sd0)
  have k21D := hide ((unhide k21C).below Sd0)
  clear hd0 Sd0 r0C r1C r2C r3C r4C k17C k19C k21C stC sgC
  refine wpAnyH_take (i := 0) (v := .int .u32 (h2 : Int)) rfl (by kernel_rfl) (by kernel_rfl) (by kernel_rfl) (fun _ _ _ h => h) (.inl ⟨by kernel_rfl, fun W _ => by go_simp⟩) hS0 ?_
  refine wpAnyH_take (i := 1) rfl (by kernel_rfl) (by kernel_rfl) (by kernel_rfl) (fun _ _ _ h => h) (yields_row (by kernel_rfl) 23 (.tmp 12) rfl (w.heap.size + 1 + 1 + 1) (by kernel_rfl) 23 _ (0, 0) _ (unhide sr3) Tryd.underlying23 rfl hi3) hS0 ?_
  refine wpAnyH_take (i := 2) rfl (by kernel_rfl) (by kernel_rfl) (by kernel_rfl) (fun _ _ _ h => h) (yields_row (by kernel_rfl) 23 (.tmp 13) rfl (w.heap.size + 1 + 1 + 1 + 1) (by kernel_rfl) 23 _ (0, 0) _ (unhide sr4) Tryd.underlying23 rfl hi4) hS0 ?_
  refine wpAnyH_take (i := 3) (v := .pointer (some ⟨G21, 0, none⟩)) rfl (by kernel_rfl) (by kernel_rfl) (by kernel_rfl) (fun _ _ _ h => h) (.inl ⟨by kernel_rfl, fun W _ => by go_simp⟩) hS0 ?_
  refine wpAnyH_one 4 _ (by kernel_rfl) rfl ?_
  have cD : dC.cell? ⟨G21, 0, none⟩ = some (.int .u32 (home : Int)) := by rw [cell_of_row _ _ _ _ _ _ (unhide k21D).1, ← unhide HUC]; exact updc_home home a b cs
  have fD : dC.frozen? ⟨G21, 0, none⟩ = false := frozen_of_row _ _ _ _ _ (unhide k21D).1
  have Hs0 := hide hS0
  clear hS0
  go_wp2
  have tE := heap_setCell_same dC G21 0 UC _ (.int .u32 (h2 : Int)) (unhide k21D).1
  have oE : ∀ k, k ≠ G21 → (dC.setCell ⟨G21, 0, none⟩ (.int .u32 (h2 : Int))).heap[k]? = dC.heap[k]? := fun k hk => heap_setCell_other _ _ _ _ hk
  have sE : (dC.setCell ⟨G21, 0, none⟩ (.int .u32 (h2 : Int))).heap.size = dC.heap.size := by simp
  have bE : ∀ B, B ≤ G21 → Below B dC (dC.setCell ⟨G21, 0, none⟩ (.int .u32 (h2 : Int))) := fun B hB => Below.setCell (p := ⟨G21, 0, none⟩) (Below.refl B dC) hB _
  obtain ⟨wE, hE⟩ : ∃ W, dC.setCell ⟨G21, 0, none⟩ (.int .u32 (h2 : Int)) = W := ⟨_, rfl⟩
  rw [hE] at tE oE sE bE
  rw [hE]
  rw [← unhide HUC, updc_set] at tE
  have hx := (unhide HSS _).1 (unhide Hs0)
  have hSE : SS wE := (unhide HSS _).2 ⟨(oE _ (unhide d3)).trans hx.1, (oE _ (unhide d4)).trans hx.2⟩
  have tE1 : wE.heap[G21]? = some (.cells (#[Value.int .u32 (h2 : Int)] ++ bc a ++ (bc b ++ cs)) 45 (0, 0)) := by rw [tE]; unfold updc; simp only [Array.append_assoc]
  refine ⟨hSE, ?_⟩
  refine wpAnyH_take (i := 5) (v := .pointer (some ⟨G21, 1, none⟩)) rfl (by kernel_rfl) (by kernel_rfl) (by kernel_rfl) (fun _ _ _ h => h) (.inl ⟨by kernel_rfl, fun W _ => by go_simp⟩) hSE ?_
  refine wpAnyH_one 6 _ (by kernel_rfl) rfl ?_
  have TE := hide tE1
  have OE := hide oE
  have SE := hide sE
  have BE := hide bE
  have HSE := hide hSE
  have mac : (bc a).size = (bc c).size := by rw [bc_size, bc_size, ha, hc]
  have mbd : (bc b).size = (bc d).size := by rw [bc_size, bc_size, hb, hd]
  have oc := bc_oneCell c
  have od := bc_oneCell d
  have sc33 : (#[Value.int .u32 (h2 : Int)] ++ bc c).size = 33 := by rw [Array.size_append, bc_size, hc]; rfl
  clear tE tE1 oE sE bE hSE cD fD hE hx
  go_wp2_with (refine wpList_store_part rfl 23 (.tmp 52) (.tmp 49) rfl G21 1 #[.int .u32 (h2 : Int)] (bc a) (bc b ++ cs) (bc c) 45 rfl rfl rfl mac (unhide TE) hi3 oc ?_; intro wF tF oF sF bF)
  have hx := (unhide HSS _).1 (unhide HSE)
  have hSF : SS wF := (unhide HSS _).2 ⟨(oF _ (unhide d3)).trans hx.1, (oF _ (unhide d4)).trans hx.2⟩
  refine ⟨hSF, ?_⟩
  refine wpAnyH_take (i := 7) (v := .pointer (some ⟨G21, 33, none⟩)) rfl (by kernel_rfl) (by kernel_rfl) (by kernel_rfl) (fun _ _ _ h => h) (.inl ⟨by kernel_rfl, fun W _ => by go_simp⟩) hSF ?_
  refine wpAnyH_one 8 _ (by kernel_rfl) rfl ?_
  have TF := hide (show wF.heap[G21]? = some (.cells (#[Value.int .u32 (h2 : Int)] ++ bc c ++ bc b ++ cs) 45 (0, 0)) by rw [tF]; simp only [Array.append_assoc])
  have OF := hide oF
  have SF := hide sF
  have BF := hide bF
  have HSF := hide hSF
  clear tF oF sF bF hSF hx
  go_wp2_with (refine wpList_store_part rfl 23 (.tmp 53) (.tmp 50) rfl G21 33 (#[.int .u32 (h2 : Int)] ++ bc c) (bc b) cs (bc d) 45 rfl rfl sc33 mbd (unhide TF) hi4 od ?_; intro wG tG oG sG bG)
  have hx := (unhide HSS _).1 (unhide HSF)
  have hSG : SS wG := (unhide HSS _).2 ⟨(oG _ (unhide d3)).trans hx.1, (oG _ (unhide d4)).trans hx.2⟩
  refine ⟨hSG, wpAnyH_done (by kernel_rfl) ?_ _⟩
  have tG1 : wG.heap[G21]? = some (.cells (updc h2 c d cs) 45 (0, 0)) := tG
  have oth : ∀ k, k ≠ G21 → wG.heap[k]? = dC.heap[k]? := fun k hk => (oG k hk).trans ((unhide OF k hk).trans (unhide OE k hk))
  have siz : wG.heap.size = dC.heap.size := sG.trans ((unhide SF).trans (unhide SE))
  have bel : ∀ B, B ≤ G21 → Below B dC wG := fun B hB => (unhide BE B hB).trans ((unhide BF B hB).trans (bG B hB))
  have stG := hide ((unhide stD).other (unhide hlo21) (unhide k21D).2 oth siz bel)
  have sgG := hide ((unhide sgD).other oth _ _ (by decide) (unhide k21D).1)
  have hz2 := updc_size h2 c d hc hd cs (unhide hcz4)
  have hui2 : (Tryd.prog.info? 45).map (·.size) = some (updc h2 c d cs).size := by rw [hz2]; kernel_rfl
  obtain ⟨U2, hU2⟩ : ∃ U, updc h2 c d cs = U := ⟨_, rfl⟩
  rw [hU2] at tG1 hui2
  have HU2 := hide hU2
  have k21G : Hid (Kept wG S8 G21 (.cells U2 45 (0, 0))) := hide ⟨tG1, (unhide k21D).2⟩
  have r0G := hide ((unhide r0D).other oth (unhide d0))
  have r1G := hide ((unhide r1D).other oth (unhide d1))
  have r2G := hide ((unhide r2D).other oth (unhide d2))
  have r3G := hide ((unhide r3D).other oth (unhide d3))
  have r4G := hide ((unhide r4D).other oth (unhide d4))
  have k17G := hide ((unhide k17D).other oth (unhide d17))
  have k19G := hide ((unhide k19D).other oth (unhide d19))
  clear TE OE SE BE HSE TF OF SF BF HSF tG oG sG bG hx hSG oth siz bel hU2 tG1 mac mbd oc od sc33 hz2 stD sgD k21D r0D r1D r2D r3D r4D k17D k19D hlo21 d0 d1 d2 d3 d4 d17 d19 HSS sr3 sr4 Hs0
  have cs2 := fun S => unhide CS2 S cs
  have cq := unhide CQ cs
  have cs1 := fun S => unhide CS1 S cs
  rw [unhide HU2] at cs2 cq
  rw [unhide HUC] at cs1
  have cs2 := hide cs2
  have cq := hide cq
  have cs1 := hide cs1
  clear CS1 CS2 CQ
  go_wp2_with (first
    | (refine wpList_load_row rfl 23 (.tmp 17) rfl G17 rfl 23 _ (0, 0) _ (unhide k17G).1 Tryd.underlying23 rfl hiR ?_)
    | (refine wpList_load_row rfl 45 (.tmp 21) rfl G21 rfl 45 _ (0, 0) _ (unhide k21G).1 Tryd.underlying45 rfl hui2 ?_))
  refine (unhide cs2 S8 _ (unhide sgG) ((unhide T1).below (unhide stG).bw (Nat.le_refl _))).mono ?_
  rintro e1 wH ⟨rfl, bH⟩
  have stH := hide ((unhide stG).below bH)
  have sgH := hide ((unhide sgG).below bH)
  have r0H := hide ((unhide r0G).below bH)
  have r1H := hide ((unhide r1G).below bH)
  have r2H := hide ((unhide r2G).below bH)
  have r3H := hide ((unhide r3G).below bH)
  have r4H := hide ((unhide r4G).below bH)
  have k17H := hide ((unhide k17G).below bH)
  have k19H := hide ((unhide k19G).below bH)
  have k21H := hide ((unhide k21G).below bH)
  clear bH stG sgG r0G r1G r2G r3G r4G k17G k19G k21G cs2
  go_wp2_with (first
    | (refine wpList_load_row rfl 23 (.tmp 10) rfl (w.heap.size + 1) rfl 23 _ (0, 0) _ (unhide r1H).1 Tryd.underlying23 rfl hi1 ?_)
    | (refine wpList_load_row rfl 23 (.tmp 11) rfl (w.heap.size + 1 + 1) rfl 23 _ (0, 0) _ (unhide r2H).1 Tryd.underlying23 rfl hi2 ?_))
  refine (unhide CC1 L S8 I8 (by have := (unhide stH).len; omega) _ (unhide stH).log).mono ?_
  rintro e1 wI ⟨rfl, SI, hLI, hBI, hMI⟩
  have stI := hide ((unhide stH).step (c := 1) hLI hBI hMI (rnoted_le _ _))
  have sgI := hide ((unhide sgH).step hBI hMI)
  have r0I := hide ((unhide r0H).step hBI hMI)
  have r1I := hide ((unhide r1H).step hBI hMI)
  have r2I := hide ((unhide r2H).step hBI hMI)
  have r3I := hide ((unhide r3H).step hBI hMI)
  have r4I := hide ((unhide r4H).step hBI hMI)
  have k17I := hide ((unhide k17H).step hBI hMI)
  have k19I := hide ((unhide k19H).step hBI hMI)
  have k21I := hide ((unhide k21H).step hBI hMI)
  have MOI : Hid (∀ s ∈ I7, s ∈ rnoted J1 I8) := hide fun s h => mem_rnoted_old _ _ _ (unhide MO8 s h)
  have KNI := hide ((unhide hmono I8 (rnoted J1 I8) (fun s h => mem_rnoted_old _ _ _ h)).2.1 (unhide KN8))
  obtain ⟨II, hII⟩ : ∃ I, rnoted J1 I8 = I := ⟨_, rfl⟩
  rw [hII] at stI MOI KNI
  clear hLI hBI hMI hII stH sgH r0H r1H r2H r3H r4H k17H k19H k21H MO8 KN8
  go_wp2_with (first
    | (refine wpList_load_row rfl 23 (.tmp 17) rfl G17 rfl 23 _ (0, 0) _ (unhide k17I).1 Tryd.underlying23 rfl hiR ?_)
    | (refine wpList_load_row rfl 45 (.tmp 21) rfl G21 rfl 45 _ (0, 0) _ (unhide k21I).1 Tryd.underlying45 rfl hui2 ?_))
  refine (unhide cq L SI II (by have := (unhide stI).len; omega) _ (unhide stI).log (unhide sgI)).mono ?_
  rintro e1 wJ ⟨rfl, SJ, IJ, hLJ, hBJ, hMJ, moJ, vnJ, leJ⟩
  have stJ := hide ((unhide stI).step hLJ hBJ hMJ leJ)
  have sgJ := hide ((unhide sgI).step hBJ hMJ)
  have ALLJ : Hid (WA IJ ∧ KN IJ ∧ VN IJ) := hide ⟨(unhide hmono I7 IJ (fun s h => moJ s (unhide MOI s h))).1 (unhide WA7), (unhide hmono II IJ moJ).2.1 (unhide KNI), vnJ⟩
  have r0J := hide ((unhide r0I).step hBJ hMJ)
  have r1J := hide ((unhide r1I).step hBJ hMJ)
  have r2J := hide ((unhide r2I).step hBJ hMJ)
  have r3J := hide ((unhide r3I).step hBJ hMJ)
  have r4J := hide ((unhide r4I).step hBJ hMJ)
  have k17J := hide ((unhide k17I).step hBJ hMJ)
  have k19J := hide ((unhide k19I).step hBJ hMJ)
  clear hLJ hBJ hMJ moJ vnJ leJ stI sgI r0I r1I r2I r3I r4I k17I k19I k21I MOI KNI WA7 cq
  have EAC := fun W => dig_eq a c ha hc W
  have EBD := fun W => dig_eq b d hb hd W
  obtain ⟨sm, hsm⟩ : ∃ x, decide (home = h2 ∧ a = c ∧ b = d) = x := ⟨_, rfl⟩
  have HSM := hide hsm
  clear hsm
  go_upto_region 12 with fail
  go_cut [23] (fun v wc => v = .bool sm ∧ wc = wJ)
  case first =>
    by_cases e1 : home = h2
    · have dd1 : ((home : Int) == (h2 : Int)) = true := by simp; omega
      by_cases e2 : a = c
      · rw [decide_eq_true e2] at EAC
        have hres : sm = decide (b = d) := by rw [← unhide HSM, Bool.eq_iff_iff, decide_eq_true_iff, decide_eq_true_iff]; exact ⟨fun h => h.2.2, fun h => ⟨e1, e2, h⟩⟩
        have Hres := hide hres
        clear hres e1 e2
        go_wp2_with (first
          | (refine wpList_load_row_gd rfl 23 (.tmp 10) rfl (w.heap.size + 1) rfl 23 _ (0, 0) _ (unhide r1J).1 Tryd.underlying23 rfl hi1 ?_)
          | (refine wpList_load_row_gd rfl 23 (.tmp 12) rfl (w.heap.size + 1 + 1 + 1) rfl 23 _ (0, 0) _ (unhide r3J).1 Tryd.underlying23 rfl hi3 ?_)
          | (refine wpList_eql_kq rfl 23 23 (.tmp 70) (.tmp 71) rfl _ _ rfl rfl (by kernel_rfl) _ EAC ?_)
          | (refine wpList_load_row_gd rfl 23 (.tmp 11) rfl (w.heap.size + 1 + 1) rfl 23 _ (0, 0) _ (unhide r2J).1 Tryd.underlying23 rfl hi2 ?_)
          | (refine wpList_load_row_gd rfl 23 (.tmp 13) rfl (w.heap.size + 1 + 1 + 1 + 1) rfl 23 _ (0, 0) _ (unhide r4J).1 Tryd.underlying23 rfl hi4 ?_)
          | (refine wpList_eql_kq rfl 23 23 (.tmp 75) (.tmp 76) rfl _ _ rfl rfl (by kernel_rfl) _ EBD ?_))
        go_meet
        case rel => exact ⟨by rw [unhide Hres], rfl⟩
      · rw [decide_eq_false e2] at EAC
        have hres : sm = false := by rw [← unhide HSM, decide_eq_false_iff_not]; exact fun h => e2 h.2.1
        have Hres := hide hres
        clear hres e1 e2
        go_wp2_with (first
          | (refine wpList_load_row_gd rfl 23 (.tmp 10) rfl (w.heap.size + 1) rfl 23 _ (0, 0) _ (unhide r1J).1 Tryd.underlying23 rfl hi1 ?_)
          | (refine wpList_load_row_gd rfl 23 (.tmp 12) rfl (w.heap.size + 1 + 1 + 1) rfl 23 _ (0, 0) _ (unhide r3J).1 Tryd.underlying23 rfl hi3 ?_)
          | (refine wpList_eql_kq rfl 23 23 (.tmp 70) (.tmp 71) rfl _ _ rfl rfl (by kernel_rfl) _ EAC ?_))
        go_meet
        case rel => exact ⟨by rw [unhide Hres], rfl⟩
    · have dd1 : ((home : Int) == (h2 : Int)) = false := by simp; omega
      have hres : sm = false := by rw [← unhide HSM, decide_eq_false_iff_not]; exact fun h => e1 h.1
      have Hres := hide hres
      clear hres e1
      go_wp2_with fail
      go_meet
      case rel => exact ⟨by rw [unhide Hres], rfl⟩
  case rest =>
  obtain ⟨rfl, hwc⟩ := hcut
  rw [hwc]
  clear hwc
  go_wp2_with fail
  obtain ⟨SS, hSS⟩ : ∃ SS : World → Prop, SS = fun W => (W.heap[w.heap.size + 1]? = some (.cells (bc a) 23 (0, 0)) ∧ W.heap[w.heap.size + 1 + 1]? = some (.cells (bc b) 23 (0, 0))) ∧ (W.heap[w.heap.size + 1 + 1 + 1]? = some (.cells (bc c) 23 (0, 0)) ∧ W.heap[w.heap.size + 1 + 1 + 1 + 1]? = some (.cells (bc d) 23 (0, 0))) := ⟨_, rfl⟩
  have HSS : Hid (∀ W : World, SS W ↔ ((W.heap[w.heap.size + 1]? = some (.cells (bc a) 23 (0, 0)) ∧ W.heap[w.heap.size + 1 + 1]? = some (.cells (bc b) 23 (0, 0))) ∧ (W.heap[w.heap.size + 1 + 1 + 1]? = some (.cells (bc c) 23 (0, 0)) ∧ W.heap[w.heap.size + 1 + 1 + 1 + 1]? = some (.cells (bc d) 23 (0, 0))))) := hide fun W => by rw [hSS]
  clear hSS
  have sr1 : Hid (∀ W, SS W → W.heap[w.heap.size + 1]? = some (.cells (bc a) 23 (0, 0))) := hide fun W h => ((unhide HSS W).1 h).1.1
  have sr2 : Hid (∀ W, SS W → W.heap[w.heap.size + 1 + 1]? = some (.cells (bc b) 23 (0, 0))) := hide fun W h => ((unhide HSS W).1 h).1.2
  have sr3 : Hid (∀ W, SS W → W.heap[w.heap.size + 1 + 1 + 1]? = some (.cells (bc c) 23 (0, 0))) := hide fun W h => ((unhide HSS W).1 h).2.1
  have sr4 : Hid (∀ W, SS W → W.heap[w.heap.size + 1 + 1 + 1 + 1]? = some (.cells (bc d) 23 (0, 0))) := hide fun W h => ((unhide HSS W).1 h).2.2
  have HSM' : Hid (∀ W S, (∀ g o, Kept wJ SJ g o → Kept W S g o) → SS W) := hide fun W S h => (unhide HSS W).2 ⟨⟨(h _ _ (unhide r1J)).1, (h _ _ (unhide r2J)).1⟩, ⟨(h _ _ (unhide r3J)).1, (h _ _ (unhide r4J)).1⟩⟩
  have MS : ∀ {n cl W}, Md w1 wJ L SJ IJ n cl W → SS W := fun ⟨S, I, _, kp, _⟩ => unhide HSM' _ S kp
  have cst := (unhide stJ).len
  go_cut [25, 26] (fun x y wc => ∃ (gx gy : Nat), x = .pointer (some ⟨gx, 0, none⟩) ∧ y = .pointer (some ⟨gy, 0, none⟩) ∧ Md w1 wJ L SJ IJ 2 [(gy, bc D2), (gx, bc D1)] wc)
  case first =>
    have Sd0 : Below wJ.heap.size wJ ({ wJ with drawn := wJ.drawn + 1 } : World) := ⟨rfl, rfl, rfl, Nat.le_refl _, fun _ _ => rfl⟩
    refine wp_region_held (S := SS) mixed ?_
    obtain ⟨d0, hd0⟩ : ∃ d, { wJ with drawn := wJ.drawn + 1 } = d := ⟨_, rfl⟩
    rw [hd0] at Sd0
    rw [hd0]
    have F0 : Md w1 wJ L SJ IJ 0 [] d0 := Md.start (unhide stJ) (by omega) Sd0
    have hS0 := MS F0
    have HF0 := hide F0
    clear hd0 Sd0
    refine wpAnyH_take (i := 0) (v := .pointer (some ⟨L, 0, none⟩)) rfl (by kernel_rfl) (by kernel_rfl) (by kernel_rfl) (fun _ _ _ h => h) (.inl ⟨by kernel_rfl, fun W _ => by go_simp⟩) hS0 ?_
    refine wpAnyH_take (i := 1) (v := .int .u32 (home : Int)) rfl (by kernel_rfl) (by kernel_rfl) (by kernel_rfl) (fun _ _ _ h => h) (.inl ⟨by kernel_rfl, fun W _ => by go_simp⟩) hS0 ?_
    refine wpAnyH_take (i := 2) rfl (by kernel_rfl) (by kernel_rfl) (by kernel_rfl) (fun _ _ _ h => h) (yields_row (by kernel_rfl) 23 (.tmp 10) rfl (w.heap.size + 1) (by kernel_rfl) 23 _ (0, 0) _ (unhide sr1) Tryd.underlying23 rfl hi1) hS0 ?_
    refine wpAnyH_take (i := 3) rfl (by kernel_rfl) (by kernel_rfl) (by kernel_rfl) (fun _ _ _ h => h) (yields_row (by kernel_rfl) 23 (.tmp 11) rfl (w.heap.size + 1 + 1) (by kernel_rfl) 23 _ (0, 0) _ (unhide sr2) Tryd.underlying23 rfl hi2) hS0 ?_
    refine wpAnyH_take (i := 5) (v := .pointer (some ⟨L, 0, none⟩)) rfl (by kernel_rfl) (by kernel_rfl) (by kernel_rfl) (fun _ _ _ h => h) (.inl ⟨by kernel_rfl, fun W _ => by kernel_rfl⟩) hS0 ?_
    refine wpAnyH_take (i := 6) (v := .int .u32 (h2 : Int)) rfl (by kernel_rfl) (by kernel_rfl) (by kernel_rfl) (fun _ _ _ h => h) (.inl ⟨by kernel_rfl, fun W _ => by kernel_rfl⟩) hS0 ?_
    refine wpAnyH_take (i := 7) rfl (by kernel_rfl) (by kernel_rfl) (by kernel_rfl) (fun _ _ _ h => h) (yields_row (by kernel_rfl) 23 (.tmp 12) rfl (w.heap.size + 1 + 1 + 1) (by kernel_rfl) 23 _ (0, 0) _ (unhide sr3) Tryd.underlying23 rfl hi3) hS0 ?_
    refine wpAnyH_take (i := 8) rfl (by kernel_rfl) (by kernel_rfl) (by kernel_rfl) (fun _ _ _ h => h) (yields_row (by kernel_rfl) 23 (.tmp 13) rfl (w.heap.size + 1 + 1 + 1 + 1) (by kernel_rfl) 23 _ (0, 0) _ (unhide sr4) Tryd.underlying23 rfl hi4) hS0 ?_
    go_simp
    have F0 := unhide HF0
    clear HF0 hS0
    refine wpAnyH_three 4 10 11 _ _ _ (by kernel_rfl) rfl rfl rfl ?_ ?_ ?_
    · go_wp2_with fail
      have Hv1 := F0.call (by decide) (unhide CC1 L)
      refine Hv1.mono ?_
      clear Hv1
      rintro e v1 ⟨rfl, F2⟩
      go_wp2
      refine ⟨MS F2, ?_⟩
      refine wpAnyH_three 9 10 11 _ _ _ (by kernel_rfl) rfl rfl rfl ?_ ?_ ?_
      · go_wp2_with fail
        have Hv3 := F2.call (by decide) (unhide CC2 L)
        refine Hv3.mono ?_
        clear Hv3
        rintro e v3 ⟨rfl, F4⟩
        go_wp2
        refine ⟨MS F4, ?_⟩
        refine wpAnyH_two 10 11 _ _ (by kernel_rfl) rfl rfl ?_ ?_
        · go_wp2
          have F6 := F4.alloc (bc (List.replicate 32 (0 : UInt8)))
          refine ⟨MS F6, ?_⟩
          change wpAnyH _ _ _ _ _ _ _ _ (v3.alloc (.cells (bc (List.replicate 32 (0 : UInt8))) 23))
          obtain ⟨y5, hy5⟩ : ∃ Y, v3.alloc (.cells (bc (List.replicate 32 (0 : UInt8))) 23) = Y := ⟨_, rfl⟩
          rw [hy5] at F6
          rw [hy5]
          clear hy5
          refine wpAnyH_one 11 _ (by kernel_rfl) rfl ?_
          go_wp2
          have F8 := F6.alloc (bc (List.replicate 32 (0 : UInt8)))
          have ne9 : v3.heap.size ≠ y5.heap.size := F6.fresh _ List.mem_cons_self
          refine ⟨MS F8, ?_⟩
          change wpAnyH _ _ _ _ _ _ _ _ (y5.alloc (.cells (bc (List.replicate 32 (0 : UInt8))) 23))
          obtain ⟨y7, hy7⟩ : ∃ Y, y5.alloc (.cells (bc (List.replicate 32 (0 : UInt8))) 23) = Y := ⟨_, rfl⟩
          rw [hy7] at F8
          rw [hy7]
          clear hy7
          refine wpAnyH_one 12 _ (by kernel_rfl) rfl ?_
          go_wp2_with (refine wpList_store_row rfl 23 (.tmp 25) (.tmp 83) rfl (v3.heap.size) (bc D1) rfl rfl 23 _ (F8.cell (v3.heap.size, (bc (List.replicate 32 (0 : UInt8)))) (by first | exact List.mem_cons_self | exact List.mem_cons_of_mem _ List.mem_cons_self)) hiD1 hzD1 hoD1 ?_)
          have F10 := F8.set (bc D1) (g := v3.heap.size) (Z := (bc (List.replicate 32 (0 : UInt8)))) (g' := y5.heap.size) (Z' := (bc (List.replicate 32 (0 : UInt8)))) (by first | exact List.mem_cons_self | exact List.mem_cons_of_mem _ List.mem_cons_self) (by first | exact List.mem_cons_self | exact List.mem_cons_of_mem _ List.mem_cons_self) ne9
          refine ⟨MS F10, ?_⟩
          change wpAnyH _ _ _ _ _ _ _ _ (y7.setRow (v3.heap.size) (bc D1))
          obtain ⟨u12, hu12⟩ : ∃ Y, y7.setRow (v3.heap.size) (bc D1) = Y := ⟨_, rfl⟩
          rw [hu12] at F10
          rw [hu12]
          clear hu12
          refine wpAnyH_one 13 _ (by kernel_rfl) rfl ?_
          go_wp2_with (refine wpList_store_row rfl 23 (.tmp 26) (.tmp 88) rfl (y5.heap.size) (bc D2) rfl rfl 23 _ (F10.cell (y5.heap.size, (bc (List.replicate 32 (0 : UInt8)))) (by first | exact List.mem_cons_self | exact List.mem_cons_of_mem _ List.mem_cons_self)) hiD2 hzD2 hoD2 ?_)
          have F11 := F10.set (bc D2) (g := y5.heap.size) (Z := (bc (List.replicate 32 (0 : UInt8)))) (g' := v3.heap.size) (Z' := bc D1) (by first | exact List.mem_cons_self | exact List.mem_cons_of_mem _ List.mem_cons_self) (by first | exact List.mem_cons_self | exact List.mem_cons_of_mem _ List.mem_cons_self) ne9.symm
          refine ⟨MS F11, wpAnyH_done (by kernel_rfl) ?_ _⟩
          go_wp2
          go_meet
          case rel => exact ⟨_, _, rfl, rfl, F11⟩
        · go_wp2
          have F14 := F4.alloc (bc (List.replicate 32 (0 : UInt8)))
          refine ⟨MS F14, ?_⟩
          change wpAnyH _ _ _ _ _ _ _ _ (v3.alloc (.cells (bc (List.replicate 32 (0 : UInt8))) 23))
          obtain ⟨y13, hy13⟩ : ∃ Y, v3.alloc (.cells (bc (List.replicate 32 (0 : UInt8))) 23) = Y := ⟨_, rfl⟩
          rw [hy13] at F14
          rw [hy13]
          clear hy13
          refine wpAnyH_one 10 _ (by kernel_rfl) rfl ?_
          go_wp2
          have F16 := F14.alloc (bc (List.replicate 32 (0 : UInt8)))
          have ne17 : v3.heap.size ≠ y13.heap.size := F14.fresh _ List.mem_cons_self
          refine ⟨MS F16, ?_⟩
          change wpAnyH _ _ _ _ _ _ _ _ (y13.alloc (.cells (bc (List.replicate 32 (0 : UInt8))) 23))
          obtain ⟨y15, hy15⟩ : ∃ Y, y13.alloc (.cells (bc (List.replicate 32 (0 : UInt8))) 23) = Y := ⟨_, rfl⟩
          rw [hy15] at F16
          rw [hy15]
          clear hy15
          refine wpAnyH_one 12 _ (by kernel_rfl) rfl ?_
          go_wp2_with (refine wpList_store_row rfl 23 (.tmp 25) (.tmp 83) rfl (y13.heap.size) (bc D1) rfl rfl 23 _ (F16.cell (y13.heap.size, (bc (List.replicate 32 (0 : UInt8)))) (by first | exact List.mem_cons_self | exact List.mem_cons_of_mem _ List.mem_cons_self)) hiD1 hzD1 hoD1 ?_)
          have F18 := F16.set (bc D1) (g := y13.heap.size) (Z := (bc (List.replicate 32 (0 : UInt8)))) (g' := v3.heap.size) (Z' := (bc (List.replicate 32 (0 : UInt8)))) (by first | exact List.mem_cons_self | exact List.mem_cons_of_mem _ List.mem_cons_self) (by first | exact List.mem_cons_self | exact List.mem_cons_of_mem _ List.mem_cons_self) ne17.symm
          refine ⟨MS F18, ?_⟩
          change wpAnyH _ _ _ _ _ _ _ _ (y15.setRow (y13.heap.size) (bc D1))
          obtain ⟨u20, hu20⟩ : ∃ Y, y15.setRow (y13.heap.size) (bc D1) = Y := ⟨_, rfl⟩
          rw [hu20] at F18
          rw [hu20]
          clear hu20
          refine wpAnyH_one 13 _ (by kernel_rfl) rfl ?_
          go_wp2_with (refine wpList_store_row rfl 23 (.tmp 26) (.tmp 88) rfl (v3.heap.size) (bc D2) rfl rfl 23 _ (F18.cell (v3.heap.size, (bc (List.replicate 32 (0 : UInt8)))) (by first | exact List.mem_cons_self | exact List.mem_cons_of_mem _ List.mem_cons_self)) hiD2 hzD2 hoD2 ?_)
          have F19 := F18.set (bc D2) (g := v3.heap.size) (Z := (bc (List.replicate 32 (0 : UInt8)))) (g' := y13.heap.size) (Z' := bc D1) (by first | exact List.mem_cons_self | exact List.mem_cons_of_mem _ List.mem_cons_self) (by first | exact List.mem_cons_self | exact List.mem_cons_of_mem _ List.mem_cons_self) ne17
          refine ⟨MS F19, wpAnyH_done (by kernel_rfl) ?_ _⟩
          go_wp2
          go_meet
          case rel => exact ⟨_, _, rfl, rfl, F19⟩
      · go_wp2
        have F22 := F2.alloc (bc (List.replicate 32 (0 : UInt8)))
        refine ⟨MS F22, ?_⟩
        change wpAnyH _ _ _ _ _ _ _ _ (v1.alloc (.cells (bc (List.replicate 32 (0 : UInt8))) 23))
        obtain ⟨y21, hy21⟩ : ∃ Y, v1.alloc (.cells (bc (List.replicate 32 (0 : UInt8))) 23) = Y := ⟨_, rfl⟩
        rw [hy21] at F22
        rw [hy21]
        clear hy21
        refine wpAnyH_two 9 11 _ _ (by kernel_rfl) rfl rfl ?_ ?_
        · go_wp2_with fail
          have Hv23 := F22.call (by decide) (unhide CC2 L)
          refine Hv23.mono ?_
          clear Hv23
          rintro e v23 ⟨rfl, F24⟩
          go_wp2
          refine ⟨MS F24, ?_⟩
          refine wpAnyH_one 11 _ (by kernel_rfl) rfl ?_
          go_wp2
          have F26 := F24.alloc (bc (List.replicate 32 (0 : UInt8)))
          have ne27 : v1.heap.size ≠ v23.heap.size := F24.fresh _ List.mem_cons_self
          refine ⟨MS F26, ?_⟩
          change wpAnyH _ _ _ _ _ _ _ _ (v23.alloc (.cells (bc (List.replicate 32 (0 : UInt8))) 23))
          obtain ⟨y25, hy25⟩ : ∃ Y, v23.alloc (.cells (bc (List.replicate 32 (0 : UInt8))) 23) = Y := ⟨_, rfl⟩
          rw [hy25] at F26
          rw [hy25]
          clear hy25
          refine wpAnyH_one 12 _ (by kernel_rfl) rfl ?_
          go_wp2_with (refine wpList_store_row rfl 23 (.tmp 25) (.tmp 83) rfl (v1.heap.size) (bc D1) rfl rfl 23 _ (F26.cell (v1.heap.size, (bc (List.replicate 32 (0 : UInt8)))) (by first | exact List.mem_cons_self | exact List.mem_cons_of_mem _ List.mem_cons_self)) hiD1 hzD1 hoD1 ?_)
          have F28 := F26.set (bc D1) (g := v1.heap.size) (Z := (bc (List.replicate 32 (0 : UInt8)))) (g' := v23.heap.size) (Z' := (bc (List.replicate 32 (0 : UInt8)))) (by first | exact List.mem_cons_self | exact List.mem_cons_of_mem _ List.mem_cons_self) (by first | exact List.mem_cons_self | exact List.mem_cons_of_mem _ List.mem_cons_self) ne27
          refine ⟨MS F28, ?_⟩
          change wpAnyH _ _ _ _ _ _ _ _ (y25.setRow (v1.heap.size) (bc D1))
          obtain ⟨u30, hu30⟩ : ∃ Y, y25.setRow (v1.heap.size) (bc D1) = Y := ⟨_, rfl⟩
          rw [hu30] at F28
          rw [hu30]
          clear hu30
          refine wpAnyH_one 13 _ (by kernel_rfl) rfl ?_
          go_wp2_with (refine wpList_store_row rfl 23 (.tmp 26) (.tmp 88) rfl (v23.heap.size) (bc D2) rfl rfl 23 _ (F28.cell (v23.heap.size, (bc (List.replicate 32 (0 : UInt8)))) (by first | exact List.mem_cons_self | exact List.mem_cons_of_mem _ List.mem_cons_self)) hiD2 hzD2 hoD2 ?_)
          have F29 := F28.set (bc D2) (g := v23.heap.size) (Z := (bc (List.replicate 32 (0 : UInt8)))) (g' := v1.heap.size) (Z' := bc D1) (by first | exact List.mem_cons_self | exact List.mem_cons_of_mem _ List.mem_cons_self) (by first | exact List.mem_cons_self | exact List.mem_cons_of_mem _ List.mem_cons_self) ne27.symm
          refine ⟨MS F29, wpAnyH_done (by kernel_rfl) ?_ _⟩
          go_wp2
          go_meet
          case rel => exact ⟨_, _, rfl, rfl, F29⟩
        · go_wp2
          have F32 := F22.alloc (bc (List.replicate 32 (0 : UInt8)))
          have ne33 : v1.heap.size ≠ y21.heap.size := F22.fresh _ List.mem_cons_self
          refine ⟨MS F32, ?_⟩
          change wpAnyH _ _ _ _ _ _ _ _ (y21.alloc (.cells (bc (List.replicate 32 (0 : UInt8))) 23))
          obtain ⟨y31, hy31⟩ : ∃ Y, y21.alloc (.cells (bc (List.replicate 32 (0 : UInt8))) 23) = Y := ⟨_, rfl⟩
          rw [hy31] at F32
          rw [hy31]
          clear hy31
          refine wpAnyH_one 9 _ (by kernel_rfl) rfl ?_
          go_wp2_with fail
          have Hv34 := F32.call (by decide) (unhide CC2 L)
          refine Hv34.mono ?_
          clear Hv34
          rintro e v34 ⟨rfl, F35⟩
          go_wp2
          refine ⟨MS F35, ?_⟩
          refine wpAnyH_one 12 _ (by kernel_rfl) rfl ?_
          go_wp2_with (refine wpList_store_row rfl 23 (.tmp 25) (.tmp 83) rfl (v1.heap.size) (bc D1) rfl rfl 23 _ (F35.cell (v1.heap.size, (bc (List.replicate 32 (0 : UInt8)))) (by first | exact List.mem_cons_self | exact List.mem_cons_of_mem _ List.mem_cons_self)) hiD1 hzD1 hoD1 ?_)
          have F36 := F35.set (bc D1) (g := v1.heap.size) (Z := (bc (List.replicate 32 (0 : UInt8)))) (g' := y21.heap.size) (Z' := (bc (List.replicate 32 (0 : UInt8)))) (by first | exact List.mem_cons_self | exact List.mem_cons_of_mem _ List.mem_cons_self) (by first | exact List.mem_cons_self | exact List.mem_cons_of_mem _ List.mem_cons_self) ne33
          refine ⟨MS F36, ?_⟩
          change wpAnyH _ _ _ _ _ _ _ _ (v34.setRow (v1.heap.size) (bc D1))
          obtain ⟨u38, hu38⟩ : ∃ Y, v34.setRow (v1.heap.size) (bc D1) = Y := ⟨_, rfl⟩
          rw [hu38] at F36
          rw [hu38]
          clear hu38
          refine wpAnyH_one 13 _ (by kernel_rfl) rfl ?_
          go_wp2_with (refine wpList_store_row rfl 23 (.tmp 26) (.tmp 88) rfl (y21.heap.size) (bc D2) rfl rfl 23 _ (F36.cell (y21.heap.size, (bc (List.replicate 32 (0 : UInt8)))) (by first | exact List.mem_cons_self | exact List.mem_cons_of_mem _ List.mem_cons_self)) hiD2 hzD2 hoD2 ?_)
          have F37 := F36.set (bc D2) (g := y21.heap.size) (Z := (bc (List.replicate 32 (0 : UInt8)))) (g' := v1.heap.size) (Z' := bc D1) (by first | exact List.mem_cons_self | exact List.mem_cons_of_mem _ List.mem_cons_self) (by first | exact List.mem_cons_self | exact List.mem_cons_of_mem _ List.mem_cons_self) ne33.symm
          refine ⟨MS F37, wpAnyH_done (by kernel_rfl) ?_ _⟩
          go_wp2
          go_meet
          case rel => exact ⟨_, _, rfl, rfl, F37⟩
      · go_wp2
        have F40 := F2.alloc (bc (List.replicate 32 (0 : UInt8)))
        refine ⟨MS F40, ?_⟩
        change wpAnyH _ _ _ _ _ _ _ _ (v1.alloc (.cells (bc (List.replicate 32 (0 : UInt8))) 23))
        obtain ⟨y39, hy39⟩ : ∃ Y, v1.alloc (.cells (bc (List.replicate 32 (0 : UInt8))) 23) = Y := ⟨_, rfl⟩
        rw [hy39] at F40
        rw [hy39]
        clear hy39
        refine wpAnyH_two 9 10 _ _ (by kernel_rfl) rfl rfl ?_ ?_
        · go_wp2_with fail
          have Hv41 := F40.call (by decide) (unhide CC2 L)
          refine Hv41.mono ?_
          clear Hv41
          rintro e v41 ⟨rfl, F42⟩
          go_wp2
          refine ⟨MS F42, ?_⟩
          refine wpAnyH_one 10 _ (by kernel_rfl) rfl ?_
          go_wp2
          have F44 := F42.alloc (bc (List.replicate 32 (0 : UInt8)))
          have ne45 : v1.heap.size ≠ v41.heap.size := F42.fresh _ List.mem_cons_self
          refine ⟨MS F44, ?_⟩
          change wpAnyH _ _ _ _ _ _ _ _ (v41.alloc (.cells (bc (List.replicate 32 (0 : UInt8))) 23))
          obtain ⟨y43, hy43⟩ : ∃ Y, v41.alloc (.cells (bc (List.replicate 32 (0 : UInt8))) 23) = Y := ⟨_, rfl⟩
          rw [hy43] at F44
          rw [hy43]
          clear hy43
          refine wpAnyH_one 12 _ (by kernel_rfl) rfl ?_
          go_wp2_with (refine wpList_store_row rfl 23 (.tmp 25) (.tmp 83) rfl (v41.heap.size) (bc D1) rfl rfl 23 _ (F44.cell (v41.heap.size, (bc (List.replicate 32 (0 : UInt8)))) (by first | exact List.mem_cons_self | exact List.mem_cons_of_mem _ List.mem_cons_self)) hiD1 hzD1 hoD1 ?_)
          have F46 := F44.set (bc D1) (g := v41.heap.size) (Z := (bc (List.replicate 32 (0 : UInt8)))) (g' := v1.heap.size) (Z' := (bc (List.replicate 32 (0 : UInt8)))) (by first | exact List.mem_cons_self | exact List.mem_cons_of_mem _ List.mem_cons_self) (by first | exact List.mem_cons_self | exact List.mem_cons_of_mem _ List.mem_cons_self) ne45.symm
          refine ⟨MS F46, ?_⟩
          change wpAnyH _ _ _ _ _ _ _ _ (y43.setRow (v41.heap.size) (bc D1))
          obtain ⟨u48, hu48⟩ : ∃ Y, y43.setRow (v41.heap.size) (bc D1) = Y := ⟨_, rfl⟩
          rw [hu48] at F46
          rw [hu48]
          clear hu48
          refine wpAnyH_one 13 _ (by kernel_rfl) rfl ?_
          go_wp2_with (refine wpList_store_row rfl 23 (.tmp 26) (.tmp 88) rfl (v1.heap.size) (bc D2) rfl rfl 23 _ (F46.cell (v1.heap.size, (bc (List.replicate 32 (0 : UInt8)))) (by first | exact List.mem_cons_self | exact List.mem_cons_of_mem _ List.mem_cons_self)) hiD2 hzD2 hoD2 ?_)
          have F47 := F46.set (bc D2) (g := v1.heap.size) (Z := (bc (List.replicate 32 (0 : UInt8)))) (g' := v41.heap.size) (Z' := bc D1) (by first | exact List.mem_cons_self | exact List.mem_cons_of_mem _ List.mem_cons_self) (by first | exact List.mem_cons_self | exact List.mem_cons_of_mem _ List.mem_cons_self) ne45
          refine ⟨MS F47, wpAnyH_done (by kernel_rfl) ?_ _⟩
          go_wp2
          go_meet
          case rel => exact ⟨_, _, rfl, rfl, F47⟩
        · go_wp2
          have F50 := F40.alloc (bc (List.replicate 32 (0 : UInt8)))
          have ne51 : v1.heap.size ≠ y39.heap.size := F40.fresh _ List.mem_cons_self
          refine ⟨MS F50, ?_⟩
          change wpAnyH _ _ _ _ _ _ _ _ (y39.alloc (.cells (bc (List.replicate 32 (0 : UInt8))) 23))
          obtain ⟨y49, hy49⟩ : ∃ Y, y39.alloc (.cells (bc (List.replicate 32 (0 : UInt8))) 23) = Y := ⟨_, rfl⟩
          rw [hy49] at F50
          rw [hy49]
          clear hy49
          refine wpAnyH_one 9 _ (by kernel_rfl) rfl ?_
          go_wp2_with fail
          have Hv52 := F50.call (by decide) (unhide CC2 L)
          refine Hv52.mono ?_
          clear Hv52
          rintro e v52 ⟨rfl, F53⟩
          go_wp2
          refine ⟨MS F53, ?_⟩
          refine wpAnyH_one 12 _ (by kernel_rfl) rfl ?_
          go_wp2_with (refine wpList_store_row rfl 23 (.tmp 25) (.tmp 83) rfl (y39.heap.size) (bc D1) rfl rfl 23 _ (F53.cell (y39.heap.size, (bc (List.replicate 32 (0 : UInt8)))) (by first | exact List.mem_cons_self | exact List.mem_cons_of_mem _ List.mem_cons_self)) hiD1 hzD1 hoD1 ?_)
          have F54 := F53.set (bc D1) (g := y39.heap.size) (Z := (bc (List.replicate 32 (0 : UInt8)))) (g' := v1.heap.size) (Z' := (bc (List.replicate 32 (0 : UInt8)))) (by first | exact List.mem_cons_self | exact List.mem_cons_of_mem _ List.mem_cons_self) (by first | exact List.mem_cons_self | exact List.mem_cons_of_mem _ List.mem_cons_self) ne51.symm
          refine ⟨MS F54, ?_⟩
          change wpAnyH _ _ _ _ _ _ _ _ (v52.setRow (y39.heap.size) (bc D1))
          obtain ⟨u56, hu56⟩ : ∃ Y, v52.setRow (y39.heap.size) (bc D1) = Y := ⟨_, rfl⟩
          rw [hu56] at F54
          rw [hu56]
          clear hu56
          refine wpAnyH_one 13 _ (by kernel_rfl) rfl ?_
          go_wp2_with (refine wpList_store_row rfl 23 (.tmp 26) (.tmp 88) rfl (v1.heap.size) (bc D2) rfl rfl 23 _ (F54.cell (v1.heap.size, (bc (List.replicate 32 (0 : UInt8)))) (by first | exact List.mem_cons_self | exact List.mem_cons_of_mem _ List.mem_cons_self)) hiD2 hzD2 hoD2 ?_)
          have F55 := F54.set (bc D2) (g := v1.heap.size) (Z := (bc (List.replicate 32 (0 : UInt8)))) (g' := y39.heap.size) (Z' := bc D1) (by first | exact List.mem_cons_self | exact List.mem_cons_of_mem _ List.mem_cons_self) (by first | exact List.mem_cons_self | exact List.mem_cons_of_mem _ List.mem_cons_self) ne51
          refine ⟨MS F55, wpAnyH_done (by kernel_rfl) ?_ _⟩
          go_wp2
          go_meet
          case rel => exact ⟨_, _, rfl, rfl, F55⟩
    · go_wp2
      have F58 := F0.alloc (bc (List.replicate 32 (0 : UInt8)))
      refine ⟨MS F58, ?_⟩
      change wpAnyH _ _ _ _ _ _ _ _ (d0.alloc (.cells (bc (List.replicate 32 (0 : UInt8))) 23))
      obtain ⟨y57, hy57⟩ : ∃ Y, d0.alloc (.cells (bc (List.replicate 32 (0 : UInt8))) 23) = Y := ⟨_, rfl⟩
      rw [hy57] at F58
      rw [hy57]
      clear hy57
      refine wpAnyH_two 4 11 _ _ (by kernel_rfl) rfl rfl ?_ ?_
      · go_wp2_with fail
        have Hv59 := F58.call (by decide) (unhide CC1 L)
        refine Hv59.mono ?_
        clear Hv59
        rintro e v59 ⟨rfl, F60⟩
        go_wp2
        refine ⟨MS F60, ?_⟩
        refine wpAnyH_two 9 11 _ _ (by kernel_rfl) rfl rfl ?_ ?_
        · go_wp2_with fail
          have Hv61 := F60.call (by decide) (unhide CC2 L)
          refine Hv61.mono ?_
          clear Hv61
          rintro e v61 ⟨rfl, F62⟩
          go_wp2
          refine ⟨MS F62, ?_⟩
          refine wpAnyH_one 11 _ (by kernel_rfl) rfl ?_
          go_wp2
          have F64 := F62.alloc (bc (List.replicate 32 (0 : UInt8)))
          have ne65 : d0.heap.size ≠ v61.heap.size := F62.fresh _ List.mem_cons_self
          refine ⟨MS F64, ?_⟩
          change wpAnyH _ _ _ _ _ _ _ _ (v61.alloc (.cells (bc (List.replicate 32 (0 : UInt8))) 23))
          obtain ⟨y63, hy63⟩ : ∃ Y, v61.alloc (.cells (bc (List.replicate 32 (0 : UInt8))) 23) = Y := ⟨_, rfl⟩
          rw [hy63] at F64
          rw [hy63]
          clear hy63
          refine wpAnyH_one 12 _ (by kernel_rfl) rfl ?_
          go_wp2_with (refine wpList_store_row rfl 23 (.tmp 25) (.tmp 83) rfl (d0.heap.size) (bc D1) rfl rfl 23 _ (F64.cell (d0.heap.size, (bc (List.replicate 32 (0 : UInt8)))) (by first | exact List.mem_cons_self | exact List.mem_cons_of_mem _ List.mem_cons_self)) hiD1 hzD1 hoD1 ?_)
          have F66 := F64.set (bc D1) (g := d0.heap.size) (Z := (bc (List.replicate 32 (0 : UInt8)))) (g' := v61.heap.size) (Z' := (bc (List.replicate 32 (0 : UInt8)))) (by first | exact List.mem_cons_self | exact List.mem_cons_of_mem _ List.mem_cons_self) (by first | exact List.mem_cons_self | exact List.mem_cons_of_mem _ List.mem_cons_self) ne65
          refine ⟨MS F66, ?_⟩
          change wpAnyH _ _ _ _ _ _ _ _ (y63.setRow (d0.heap.size) (bc D1))
          obtain ⟨u68, hu68⟩ : ∃ Y, y63.setRow (d0.heap.size) (bc D1) = Y := ⟨_, rfl⟩
          rw [hu68] at F66
          rw [hu68]
          clear hu68
          refine wpAnyH_one 13 _ (by kernel_rfl) rfl ?_
          go_wp2_with (refine wpList_store_row rfl 23 (.tmp 26) (.tmp 88) rfl (v61.heap.size) (bc D2) rfl rfl 23 _ (F66.cell (v61.heap.size, (bc (List.replicate 32 (0 : UInt8)))) (by first | exact List.mem_cons_self | exact List.mem_cons_of_mem _ List.mem_cons_self)) hiD2 hzD2 hoD2 ?_)
          have F67 := F66.set (bc D2) (g := v61.heap.size) (Z := (bc (List.replicate 32 (0 : UInt8)))) (g' := d0.heap.size) (Z' := bc D1) (by first | exact List.mem_cons_self | exact List.mem_cons_of_mem _ List.mem_cons_self) (by first | exact List.mem_cons_self | exact List.mem_cons_of_mem _ List.mem_cons_self) ne65.symm
          refine ⟨MS F67, wpAnyH_done (by kernel_rfl) ?_ _⟩
          go_wp2
          go_meet
          case rel => exact ⟨_, _, rfl, rfl, F67⟩
        · go_wp2
          have F70 := F60.alloc (bc (List.replicate 32 (0 : UInt8)))
          have ne71 : d0.heap.size ≠ v59.heap.size := F60.fresh _ List.mem_cons_self
          refine ⟨MS F70, ?_⟩
          change wpAnyH _ _ _ _ _ _ _ _ (v59.alloc (.cells (bc (List.replicate 32 (0 : UInt8))) 23))
          obtain ⟨y69, hy69⟩ : ∃ Y, v59.alloc (.cells (bc (List.replicate 32 (0 : UInt8))) 23) = Y := ⟨_, rfl⟩
          rw [hy69] at F70
          rw [hy69]
          clear hy69
          refine wpAnyH_one 9 _ (by kernel_rfl) rfl ?_
          go_wp2_with fail
          have Hv72 := F70.call (by decide) (unhide CC2 L)
          refine Hv72.mono ?_
          clear Hv72
          rintro e v72 ⟨rfl, F73⟩
          go_wp2
          refine ⟨MS F73, ?_⟩
          refine wpAnyH_one 12 _ (by kernel_rfl) rfl ?_
          go_wp2_with (refine wpList_store_row rfl 23 (.tmp 25) (.tmp 83) rfl (d0.heap.size) (bc D1) rfl rfl 23 _ (F73.cell (d0.heap.size, (bc (List.replicate 32 (0 : UInt8)))) (by first | exact List.mem_cons_self | exact List.mem_cons_of_mem _ List.mem_cons_self)) hiD1 hzD1 hoD1 ?_)
          have F74 := F73.set (bc D1) (g := d0.heap.size) (Z := (bc (List.replicate 32 (0 : UInt8)))) (g' := v59.heap.size) (Z' := (bc (List.replicate 32 (0 : UInt8)))) (by first | exact List.mem_cons_self | exact List.mem_cons_of_mem _ List.mem_cons_self) (by first | exact List.mem_cons_self | exact List.mem_cons_of_mem _ List.mem_cons_self) ne71
          refine ⟨MS F74, ?_⟩
          change wpAnyH _ _ _ _ _ _ _ _ (v72.setRow (d0.heap.size) (bc D1))
          obtain ⟨u76, hu76⟩ : ∃ Y, v72.setRow (d0.heap.size) (bc D1) = Y := ⟨_, rfl⟩
          rw [hu76] at F74
          rw [hu76]
          clear hu76
          refine wpAnyH_one 13 _ (by kernel_rfl) rfl ?_
          go_wp2_with (refine wpList_store_row rfl 23 (.tmp 26) (.tmp 88) rfl (v59.heap.size) (bc D2) rfl rfl 23 _ (F74.cell (v59.heap.size, (bc (List.replicate 32 (0 : UInt8)))) (by first | exact List.mem_cons_self | exact List.mem_cons_of_mem _ List.mem_cons_self)) hiD2 hzD2 hoD2 ?_)
          have F75 := F74.set (bc D2) (g := v59.heap.size) (Z := (bc (List.replicate 32 (0 : UInt8)))) (g' := d0.heap.size) (Z' := bc D1) (by first | exact List.mem_cons_self | exact List.mem_cons_of_mem _ List.mem_cons_self) (by first | exact List.mem_cons_self | exact List.mem_cons_of_mem _ List.mem_cons_self) ne71.symm
          refine ⟨MS F75, wpAnyH_done (by kernel_rfl) ?_ _⟩
          go_wp2
          go_meet
          case rel => exact ⟨_, _, rfl, rfl, F75⟩
      · go_wp2
        have F78 := F58.alloc (bc (List.replicate 32 (0 : UInt8)))
        have ne79 : d0.heap.size ≠ y57.heap.size := F58.fresh _ List.mem_cons_self
        refine ⟨MS F78, ?_⟩
        change wpAnyH _ _ _ _ _ _ _ _ (y57.alloc (.cells (bc (List.replicate 32 (0 : UInt8))) 23))
        obtain ⟨y77, hy77⟩ : ∃ Y, y57.alloc (.cells (bc (List.replicate 32 (0 : UInt8))) 23) = Y := ⟨_, rfl⟩
        rw [hy77] at F78
        rw [hy77]
        clear hy77
        refine wpAnyH_one 4 _ (by kernel_rfl) rfl ?_
        go_wp2_with fail
        have Hv80 := F78.call (by decide) (unhide CC1 L)
        refine Hv80.mono ?_
        clear Hv80
        rintro e v80 ⟨rfl, F81⟩
        go_wp2
        refine ⟨MS F81, ?_⟩
        refine wpAnyH_one 9 _ (by kernel_rfl) rfl ?_
        go_wp2_with fail
        have Hv82 := F81.call (by decide) (unhide CC2 L)
        refine Hv82.mono ?_
        clear Hv82
        rintro e v82 ⟨rfl, F83⟩
        go_wp2
        refine ⟨MS F83, ?_⟩
        refine wpAnyH_one 12 _ (by kernel_rfl) rfl ?_
        go_wp2_with (refine wpList_store_row rfl 23 (.tmp 25) (.tmp 83) rfl (d0.heap.size) (bc D1) rfl rfl 23 _ (F83.cell (d0.heap.size, (bc (List.replicate 32 (0 : UInt8)))) (by first | exact List.mem_cons_self | exact List.mem_cons_of_mem _ List.mem_cons_self)) hiD1 hzD1 hoD1 ?_)
        have F84 := F83.set (bc D1) (g := d0.heap.size) (Z := (bc (List.replicate 32 (0 : UInt8)))) (g' := y57.heap.size) (Z' := (bc (List.replicate 32 (0 : UInt8)))) (by first | exact List.mem_cons_self | exact List.mem_cons_of_mem _ List.mem_cons_self) (by first | exact List.mem_cons_self | exact List.mem_cons_of_mem _ List.mem_cons_self) ne79
        refine ⟨MS F84, ?_⟩
        change wpAnyH _ _ _ _ _ _ _ _ (v82.setRow (d0.heap.size) (bc D1))
        obtain ⟨u86, hu86⟩ : ∃ Y, v82.setRow (d0.heap.size) (bc D1) = Y := ⟨_, rfl⟩
        rw [hu86] at F84
        rw [hu86]
        clear hu86
        refine wpAnyH_one 13 _ (by kernel_rfl) rfl ?_
        go_wp2_with (refine wpList_store_row rfl 23 (.tmp 26) (.tmp 88) rfl (y57.heap.size) (bc D2) rfl rfl 23 _ (F84.cell (y57.heap.size, (bc (List.replicate 32 (0 : UInt8)))) (by first | exact List.mem_cons_self | exact List.mem_cons_of_mem _ List.mem_cons_self)) hiD2 hzD2 hoD2 ?_)
        have F85 := F84.set (bc D2) (g := y57.heap.size) (Z := (bc (List.replicate 32 (0 : UInt8)))) (g' := d0.heap.size) (Z' := bc D1) (by first | exact List.mem_cons_self | exact List.mem_cons_of_mem _ List.mem_cons_self) (by first | exact List.mem_cons_self | exact List.mem_cons_of_mem _ List.mem_cons_self) ne79.symm
        refine ⟨MS F85, wpAnyH_done (by kernel_rfl) ?_ _⟩
        go_wp2
        go_meet
        case rel => exact ⟨_, _, rfl, rfl, F85⟩
    · go_wp2
      have F88 := F0.alloc (bc (List.replicate 32 (0 : UInt8)))
      refine ⟨MS F88, ?_⟩
      change wpAnyH _ _ _ _ _ _ _ _ (d0.alloc (.cells (bc (List.replicate 32 (0 : UInt8))) 23))
      obtain ⟨y87, hy87⟩ : ∃ Y, d0.alloc (.cells (bc (List.replicate 32 (0 : UInt8))) 23) = Y := ⟨_, rfl⟩
      rw [hy87] at F88
      rw [hy87]
      clear hy87
      refine wpAnyH_two 4 10 _ _ (by kernel_rfl) rfl rfl ?_ ?_
      · go_wp2_with fail
        have Hv89 := F88.call (by decide) (unhide CC1 L)
        refine Hv89.mono ?_
        clear Hv89
        rintro e v89 ⟨rfl, F90⟩
        go_wp2
        refine ⟨MS F90, ?_⟩
        refine wpAnyH_two 9 10 _ _ (by kernel_rfl) rfl rfl ?_ ?_
        · go_wp2_with fail
          have Hv91 := F90.call (by decide) (unhide CC2 L)
          refine Hv91.mono ?_
          clear Hv91
          rintro e v91 ⟨rfl, F92⟩
          go_wp2
          refine ⟨MS F92, ?_⟩
          refine wpAnyH_one 10 _ (by kernel_rfl) rfl ?_
          go_wp2
          have F94 := F92.alloc (bc (List.replicate 32 (0 : UInt8)))
          have ne95 : d0.heap.size ≠ v91.heap.size := F92.fresh _ List.mem_cons_self
          refine ⟨MS F94, ?_⟩
          change wpAnyH _ _ _ _ _ _ _ _ (v91.alloc (.cells (bc (List.replicate 32 (0 : UInt8))) 23))
          obtain ⟨y93, hy93⟩ : ∃ Y, v91.alloc (.cells (bc (List.replicate 32 (0 : UInt8))) 23) = Y := ⟨_, rfl⟩
          rw [hy93] at F94
          rw [hy93]
          clear hy93
          refine wpAnyH_one 12 _ (by kernel_rfl) rfl ?_
          go_wp2_with (refine wpList_store_row rfl 23 (.tmp 25) (.tmp 83) rfl (v91.heap.size) (bc D1) rfl rfl 23 _ (F94.cell (v91.heap.size, (bc (List.replicate 32 (0 : UInt8)))) (by first | exact List.mem_cons_self | exact List.mem_cons_of_mem _ List.mem_cons_self)) hiD1 hzD1 hoD1 ?_)
          have F96 := F94.set (bc D1) (g := v91.heap.size) (Z := (bc (List.replicate 32 (0 : UInt8)))) (g' := d0.heap.size) (Z' := (bc (List.replicate 32 (0 : UInt8)))) (by first | exact List.mem_cons_self | exact List.mem_cons_of_mem _ List.mem_cons_self) (by first | exact List.mem_cons_self | exact List.mem_cons_of_mem _ List.mem_cons_self) ne95.symm
          refine ⟨MS F96, ?_⟩
          change wpAnyH _ _ _ _ _ _ _ _ (y93.setRow (v91.heap.size) (bc D1))
          obtain ⟨u98, hu98⟩ : ∃ Y, y93.setRow (v91.heap.size) (bc D1) = Y := ⟨_, rfl⟩
          rw [hu98] at F96
          rw [hu98]
          clear hu98
          refine wpAnyH_one 13 _ (by kernel_rfl) rfl ?_
          go_wp2_with (refine wpList_store_row rfl 23 (.tmp 26) (.tmp 88) rfl (d0.heap.size) (bc D2) rfl rfl 23 _ (F96.cell (d0.heap.size, (bc (List.replicate 32 (0 : UInt8)))) (by first | exact List.mem_cons_self | exact List.mem_cons_of_mem _ List.mem_cons_self)) hiD2 hzD2 hoD2 ?_)
          have F97 := F96.set (bc D2) (g := d0.heap.size) (Z := (bc (List.replicate 32 (0 : UInt8)))) (g' := v91.heap.size) (Z' := bc D1) (by first | exact List.mem_cons_self | exact List.mem_cons_of_mem _ List.mem_cons_self) (by first | exact List.mem_cons_self | exact List.mem_cons_of_mem _ List.mem_cons_self) ne95
          refine ⟨MS F97, wpAnyH_done (by kernel_rfl) ?_ _⟩
          go_wp2
          go_meet
          case rel => exact ⟨_, _, rfl, rfl, F97⟩
        · go_wp2
          have F100 := F90.alloc (bc (List.replicate 32 (0 : UInt8)))
          have ne101 : d0.heap.size ≠ v89.heap.size := F90.fresh _ List.mem_cons_self
          refine ⟨MS F100, ?_⟩
          change wpAnyH _ _ _ _ _ _ _ _ (v89.alloc (.cells (bc (List.replicate 32 (0 : UInt8))) 23))
          obtain ⟨y99, hy99⟩ : ∃ Y, v89.alloc (.cells (bc (List.replicate 32 (0 : UInt8))) 23) = Y := ⟨_, rfl⟩
          rw [hy99] at F100
          rw [hy99]
          clear hy99
          refine wpAnyH_one 9 _ (by kernel_rfl) rfl ?_
          go_wp2_with fail
          have Hv102 := F100.call (by decide) (unhide CC2 L)
          refine Hv102.mono ?_
          clear Hv102
          rintro e v102 ⟨rfl, F103⟩
          go_wp2
          refine ⟨MS F103, ?_⟩
          refine wpAnyH_one 12 _ (by kernel_rfl) rfl ?_
          go_wp2_with (refine wpList_store_row rfl 23 (.tmp 25) (.tmp 83) rfl (v89.heap.size) (bc D1) rfl rfl 23 _ (F103.cell (v89.heap.size, (bc (List.replicate 32 (0 : UInt8)))) (by first | exact List.mem_cons_self | exact List.mem_cons_of_mem _ List.mem_cons_self)) hiD1 hzD1 hoD1 ?_)
          have F104 := F103.set (bc D1) (g := v89.heap.size) (Z := (bc (List.replicate 32 (0 : UInt8)))) (g' := d0.heap.size) (Z' := (bc (List.replicate 32 (0 : UInt8)))) (by first | exact List.mem_cons_self | exact List.mem_cons_of_mem _ List.mem_cons_self) (by first | exact List.mem_cons_self | exact List.mem_cons_of_mem _ List.mem_cons_self) ne101.symm
          refine ⟨MS F104, ?_⟩
          change wpAnyH _ _ _ _ _ _ _ _ (v102.setRow (v89.heap.size) (bc D1))
          obtain ⟨u106, hu106⟩ : ∃ Y, v102.setRow (v89.heap.size) (bc D1) = Y := ⟨_, rfl⟩
          rw [hu106] at F104
          rw [hu106]
          clear hu106
          refine wpAnyH_one 13 _ (by kernel_rfl) rfl ?_
          go_wp2_with (refine wpList_store_row rfl 23 (.tmp 26) (.tmp 88) rfl (d0.heap.size) (bc D2) rfl rfl 23 _ (F104.cell (d0.heap.size, (bc (List.replicate 32 (0 : UInt8)))) (by first | exact List.mem_cons_self | exact List.mem_cons_of_mem _ List.mem_cons_self)) hiD2 hzD2 hoD2 ?_)
          have F105 := F104.set (bc D2) (g := d0.heap.size) (Z := (bc (List.replicate 32 (0 : UInt8)))) (g' := v89.heap.size) (Z' := bc D1) (by first | exact List.mem_cons_self | exact List.mem_cons_of_mem _ List.mem_cons_self) (by first | exact List.mem_cons_self | exact List.mem_cons_of_mem _ List.mem_cons_self) ne101
          refine ⟨MS F105, wpAnyH_done (by kernel_rfl) ?_ _⟩
          go_wp2
          go_meet
          case rel => exact ⟨_, _, rfl, rfl, F105⟩
      · go_wp2
        have F108 := F88.alloc (bc (List.replicate 32 (0 : UInt8)))
        have ne109 : d0.heap.size ≠ y87.heap.size := F88.fresh _ List.mem_cons_self
        refine ⟨MS F108, ?_⟩
        change wpAnyH _ _ _ _ _ _ _ _ (y87.alloc (.cells (bc (List.replicate 32 (0 : UInt8))) 23))
        obtain ⟨y107, hy107⟩ : ∃ Y, y87.alloc (.cells (bc (List.replicate 32 (0 : UInt8))) 23) = Y := ⟨_, rfl⟩
        rw [hy107] at F108
        rw [hy107]
        clear hy107
        refine wpAnyH_one 4 _ (by kernel_rfl) rfl ?_
        go_wp2_with fail
        have Hv110 := F108.call (by decide) (unhide CC1 L)
        refine Hv110.mono ?_
        clear Hv110
        rintro e v110 ⟨rfl, F111⟩
        go_wp2
        refine ⟨MS F111, ?_⟩
        refine wpAnyH_one 9 _ (by kernel_rfl) rfl ?_
        go_wp2_with fail
        have Hv112 := F111.call (by decide) (unhide CC2 L)
        refine Hv112.mono ?_
        clear Hv112
        rintro e v112 ⟨rfl, F113⟩
        go_wp2
        refine ⟨MS F113, ?_⟩
        refine wpAnyH_one 12 _ (by kernel_rfl) rfl ?_
        go_wp2_with (refine wpList_store_row rfl 23 (.tmp 25) (.tmp 83) rfl (y87.heap.size) (bc D1) rfl rfl 23 _ (F113.cell (y87.heap.size, (bc (List.replicate 32 (0 : UInt8)))) (by first | exact List.mem_cons_self | exact List.mem_cons_of_mem _ List.mem_cons_self)) hiD1 hzD1 hoD1 ?_)
        have F114 := F113.set (bc D1) (g := y87.heap.size) (Z := (bc (List.replicate 32 (0 : UInt8)))) (g' := d0.heap.size) (Z' := (bc (List.replicate 32 (0 : UInt8)))) (by first | exact List.mem_cons_self | exact List.mem_cons_of_mem _ List.mem_cons_self) (by first | exact List.mem_cons_self | exact List.mem_cons_of_mem _ List.mem_cons_self) ne109.symm
        refine ⟨MS F114, ?_⟩
        change wpAnyH _ _ _ _ _ _ _ _ (v112.setRow (y87.heap.size) (bc D1))
        obtain ⟨u116, hu116⟩ : ∃ Y, v112.setRow (y87.heap.size) (bc D1) = Y := ⟨_, rfl⟩
        rw [hu116] at F114
        rw [hu116]
        clear hu116
        refine wpAnyH_one 13 _ (by kernel_rfl) rfl ?_
        go_wp2_with (refine wpList_store_row rfl 23 (.tmp 26) (.tmp 88) rfl (d0.heap.size) (bc D2) rfl rfl 23 _ (F114.cell (d0.heap.size, (bc (List.replicate 32 (0 : UInt8)))) (by first | exact List.mem_cons_self | exact List.mem_cons_of_mem _ List.mem_cons_self)) hiD2 hzD2 hoD2 ?_)
        have F115 := F114.set (bc D2) (g := d0.heap.size) (Z := (bc (List.replicate 32 (0 : UInt8)))) (g' := y87.heap.size) (Z' := bc D1) (by first | exact List.mem_cons_self | exact List.mem_cons_of_mem _ List.mem_cons_self) (by first | exact List.mem_cons_self | exact List.mem_cons_of_mem _ List.mem_cons_self) ne109
        refine ⟨MS F115, wpAnyH_done (by kernel_rfl) ?_ _⟩
        go_wp2
        go_meet
        case rel => exact ⟨_, _, rfl, rfl, F115⟩
  case rest =>
  obtain ⟨gx, gy, rfl, rfl, SK, IK, stK, kpK, sbK, szK, csK⟩ := hcut
  have kx := hide (csK (gx, bc D1) (List.mem_cons_of_mem _ List.mem_cons_self)).1
  have ky := hide (csK (gy, bc D2) List.mem_cons_self).1
  have STK := hide stK
  have sgK : Hid (SigK wc SK s D1 LV 0 cs) := hide (by
    obtain ⟨g, gp, e1, e2, e3, e4⟩ := unhide sgJ
    exact ⟨g, gp, e1, kpK _ _ e2, kpK _ _ e3, kpK _ _ e4⟩)
  have k17K := hide (kpK _ _ (unhide k17J))
  have k19K := hide (kpK _ _ (unhide k19J))
  have ALLK : Hid (WA IK ∧ KN IK ∧ VN IK) := hide ⟨(unhide hmono IJ IK sbK).1 (unhide ALLJ).1, (unhide hmono IJ IK sbK).2.1 (unhide ALLJ).2.1, (unhide hmono IJ IK sbK).2.2 (unhide ALLJ).2.2⟩
  clear stK kpK sbK szK csK sgJ stJ k17J k19J ALLJ r0J r1J r2J r3J r4J HSS sr1 sr2 sr3 sr4 HSM' MS cst CC1 CC2
  go_wp2
  go_loopw [24, 27, 89] (fun fl _ i wr => ∃ (k : Nat) (bt : Bool), k ≤ 4 ∧ i = .int .i64 (k : Int) ∧ fl = .bool bt ∧ Hid (bt = true ↔ ∀ j, j < k → D1.getD j 0 = D2.getD j 0) ∧ Below wc.heap.size wc wr) (fun _ _ i _ => 4 - (intOf i).toNat)
  case atStart => exact ⟨0, true, by omega, rfl, rfl, hide (by simp), Below.refl _ _⟩
  case round =>
    obtain ⟨k, bt, hk, rfl, rfl, hbt, bl⟩ := hrel
    by_cases hlt : k < 4
    · have hd1 : decide ((k : Int) < 4) = true := by simp; omega
      have BL := hide bl
      have HLT := hide hlt
      clear bl hlt
      cases bt with
      | false =>
        have hn : Hid (false = true ↔ ∀ j, j < k + 1 → D1.getD j 0 = D2.getD j 0) := hide ⟨fun h => (by cases h), fun h => (unhide hbt).2 (fun j hj => h j (by omega))⟩
        go_wp2_with fail
        refine wp_region_below mixed (by kernel_rfl) ?_
        quiet_step (fail)
        quiet_step (fail)
        repeat (go_big_quiet_step (fail))
        refine wpQuiet_nil ?_
        intro w8 b8
        have BL8 := (unhide BL).trans (b8.mono (unhide BL).size)
        go_wp2
        go_roundw
        case rel => exact ⟨k + 1, false, by have := unhide HLT; omega, by go_num, rfl, hn, BL8⟩
        case measure => have := unhide HLT; simp [intOf]; omega
      | true =>
        obtain ⟨r, hr⟩ : ∃ r, decide (D1.getD k 0 = D2.getD k 0) = r := ⟨_, rfl⟩
        have hn : Hid (r = true ↔ ∀ j, j < k + 1 → D1.getD j 0 = D2.getD j 0) := hide (by
          have h0 := (unhide hbt).1 rfl
          rw [← hr, decide_eq_true_iff]
          constructor
          · intro h j hj
            by_cases e' : j = k
            · rw [e']; exact h
            · exact h0 j (by omega)
          · intro h; exact h k (by omega))
        have hr2 : (((D1.getD k 0).toNat : Int) == ((D2.getD k 0).toNat : Int)) = r := by
          rw [← hr, Bool.eq_iff_iff]; simp only [beq_iff_eq, decide_eq_true_iff]
          exact ⟨fun h => UInt8.toNat_inj.1 (by omega), fun h => by rw [h]⟩
        have qx := Below.at (unhide BL) (unhide kx).lt (unhide kx).1
        have qy := Below.at (unhide BL) (unhide ky).lt (unhide ky).1
        have cx : ∀ d os, (Sort.grow (redrawn wr d) os).cell? ⟨gx, k, none⟩ = some (.int .u8 ((D1.getD k 0).toNat : Int)) := fun d os => by
          rw [cell_of_row _ _ _ _ _ _ (Below.at (below_regrown wr d os) (Array.getElem?_eq_some_iff.1 qx).1 qx), bc_at _ _ (by have := unhide HLT; have := unhide HD1L; omega)]
        have cy : ∀ d os, (Sort.grow (redrawn wr d) os).cell? ⟨gy, k, none⟩ = some (.int .u8 ((D2.getD k 0).toNat : Int)) := fun d os => by
          rw [cell_of_row _ _ _ _ _ _ (Below.at (below_regrown wr d os) (Array.getElem?_eq_some_iff.1 qy).1 qy), bc_at _ _ (by have := unhide HLT; have := unhide HD2L; omega)]
        have bk : (0 : Int) ≤ k ∧ (k : Int) < 32 := by have := unhide HLT; omega
        generalize (D1.getD k 0).toNat = bd at *
        generalize (D2.getD k 0).toNat = be at *
        clear hr qx qy
        go_wp2_with fail
        refine wp_region_below mixed (by kernel_rfl) ?_
        repeat (quiet_step (fail))
        refine wpQuiet_nil ?_
        intro w8 b8
        have BL8 := (unhide BL).trans (b8.mono (unhide BL).size)
        go_wp2
        go_roundw
        case rel => exact ⟨k + 1, r, by have := unhide HLT; omega, by go_num, rfl, hn, BL8⟩
        case measure => have := unhide HLT; simp [intOf]; omega
    · have hd1 : decide ((k : Int) < 4) = false := by simp; omega
      have hk4 : k = 4 := by omega
      subst hk4
      have STR := hide ((unhide STK).below bl)
      have sgR := hide ((unhide sgK).below bl)
      have k17R := hide ((unhide k17K).below bl)
      have k19R := hide ((unhide k19K).below bl)
      clear bl hlt STK sgK k17K k19K kx ky
      cases sm with
      | true =>
        have hok := unhide hsame (of_decide_eq_true (unhide HSM))
        subst hok
        go_wp2_with fail
        refine (unhide CA _ ((unhide T1).below (unhide STR).bw (Nat.le_refl _))).mono ?_
        rintro e1 wd ⟨rfl, bd⟩
        have STD := hide ((unhide STR).below bd)
        have sgD2 := hide ((unhide sgR).below bd)
        have k17D2 := hide ((unhide k17R).below bd)
        have k19D2 := hide ((unhide k19R).below bd)
        clear bd STR sgR k17R k19R
        have STE := STD
        have sgE := sgD2
        have k17E := k17D2
        have k19E := k19D2
        clear STD sgD2 k17D2 k19D2
        go_wp2_with (first
          | (refine wpList_load_row_gd rfl 23 (.tmp 17) rfl G17 rfl 23 _ (0, 0) _ (unhide k17E).1 Tryd.underlying23 rfl hiR ?_)
          | (refine wpList_load_row_gd rfl 45 (.tmp 19) rfl G19 rfl 45 _ (0, 0) _ (unhide k19E).1 Tryd.underlying45 rfl hui ?_))
        refine (unhide cs1 SK _ (unhide sgE) ((unhide T1).below (unhide STE).bw (Nat.le_refl _))).mono ?_
        rintro e1 wf ⟨rfl, bf⟩
        go_wp2_with fail
        go_ret
        exact ⟨rfl, (unhide B1).trans (((unhide STE).below bf).bw.mono (unhide B1).size)⟩
      | false =>
        cases bt with
        | true =>
          have hok := unhide hbits ((unhide hbt).1 rfl)
          subst hok
          go_wp2_with fail
          refine (unhide CA _ ((unhide T1).below (unhide STR).bw (Nat.le_refl _))).mono ?_
          rintro e1 wd ⟨rfl, bd⟩
          have STD := hide ((unhide STR).below bd)
          have sgD2 := hide ((unhide sgR).below bd)
          have k17D2 := hide ((unhide k17R).below bd)
          have k19D2 := hide ((unhide k19R).below bd)
          clear bd STR sgR k17R k19R
          have STE := STD
          have sgE := sgD2
          have k17E := k17D2
          have k19E := k19D2
          clear STD sgD2 k17D2 k19D2
          go_wp2_with (first
            | (refine wpList_load_row_gd rfl 23 (.tmp 17) rfl G17 rfl 23 _ (0, 0) _ (unhide k17E).1 Tryd.underlying23 rfl hiR ?_)
            | (refine wpList_load_row_gd rfl 45 (.tmp 19) rfl G19 rfl 45 _ (0, 0) _ (unhide k19E).1 Tryd.underlying45 rfl hui ?_))
          refine (unhide cs1 SK _ (unhide sgE) ((unhide T1).below (unhide STE).bw (Nat.le_refl _))).mono ?_
          rintro e1 wf ⟨rfl, bf⟩
          go_wp2_with fail
          go_ret
          exact ⟨rfl, (unhide B1).trans (((unhide STE).below bf).bw.mono (unhide B1).size)⟩
        | false =>
          cases ok with
          | false =>
            go_wp2_with fail
            refine (unhide CA _ ((unhide T1).below (unhide STR).bw (Nat.le_refl _))).mono ?_
            rintro e1 wd ⟨rfl, bd⟩
            have STD := hide ((unhide STR).below bd)
            have sgD2 := hide ((unhide sgR).below bd)
            have k17D2 := hide ((unhide k17R).below bd)
            have k19D2 := hide ((unhide k19R).below bd)
            clear bd STR sgR k17R k19R
            have STE := STD
            have sgE := sgD2
            have k17E := k17D2
            have k19E := k19D2
            clear STD sgD2 k17D2 k19D2
            go_wp2_with (first
              | (refine wpList_load_row_gd rfl 23 (.tmp 17) rfl G17 rfl 23 _ (0, 0) _ (unhide k17E).1 Tryd.underlying23 rfl hiR ?_)
              | (refine wpList_load_row_gd rfl 45 (.tmp 19) rfl G19 rfl 45 _ (0, 0) _ (unhide k19E).1 Tryd.underlying45 rfl hui ?_))
            refine (unhide cs1 SK _ (unhide sgE) ((unhide T1).below (unhide STE).bw (Nat.le_refl _))).mono ?_
            rintro e1 wf ⟨rfl, bf⟩
            go_wp2_with fail
            go_ret
            exact ⟨rfl, (unhide B1).trans (((unhide STE).below bf).bw.mono (unhide B1).size)⟩
          | true =>
            have hcl := hide (unhide hclash IK (unhide ALLK).1 (unhide ALLK).2.2 (unhide ALLK).2.1 rfl (fun h => by have := (unhide hbt).2 h; cases this))
            go_wp2_with fail
            refine (unhide CA _ ((unhide T1).below (unhide STR).bw (Nat.le_refl _))).mono ?_
            rintro e1 wd ⟨rfl, bd⟩
            have STD := hide ((unhide STR).below bd)
            have sgD2 := hide ((unhide sgR).below bd)
            have k17D2 := hide ((unhide k17R).below bd)
            have k19D2 := hide ((unhide k19R).below bd)
            clear bd STR sgR k17R k19R
            go_wp2_with fail
            have cl := rclash_calls L SK IK wd (unhide STD).log
            rw [decide_eq_true (unhide hcl)] at cl
            refine cl.mono ?_
            rintro e1 we ⟨rfl, be⟩
            have STE := hide ((unhide STD).below be)
            have sgE := hide ((unhide sgD2).below be)
            have k17E := hide ((unhide k17D2).below be)
            have k19E := hide ((unhide k19D2).below be)
            clear be cl STD sgD2 k17D2 k19D2
            go_wp2_with (first
              | (refine wpList_load_row_gd rfl 23 (.tmp 17) rfl G17 rfl 23 _ (0, 0) _ (unhide k17E).1 Tryd.underlying23 rfl hiR ?_)
              | (refine wpList_load_row_gd rfl 45 (.tmp 19) rfl G19 rfl 45 _ (0, 0) _ (unhide k19E).1 Tryd.underlying45 rfl hui ?_))
            refine (unhide cs1 SK _ (unhide sgE) ((unhide T1).below (unhide STE).bw (Nat.le_refl _))).mono ?_
            rintro e1 wf ⟨rfl, bf⟩
            go_wp2_with fail
            go_ret
            exact ⟨rfl, (unhide B1).trans (((unhide STE).below bf).bw.mono (unhide B1).size)⟩
end Go.Proofs.YtdkaphebdkdfhaaDoor

namespace Go.Proofs.YtdkaphebdkdfhaaDoor
open Go.ChangeShapes Go.WideShapes Go.ChangeAt Go.RowKit

theorem shaOwn : ownKnob Tryd.prog.godebug = none := by kernel_rfl
theorem shaLaidOut : laidOutB Tryd.prog = true := by kernel_rfl
theorem gFirst : Tryd.prog.globalNamed "pontoon/sha.firstWords" = some 0 := by kernel_rfl
theorem gFirstType : (Tryd.prog.globals[0]?).map (·.type) = some 108 := by kernel_rfl
theorem gRound : Tryd.prog.globalNamed "pontoon/sha.roundWords" = some 1 := by kernel_rfl
theorem gRoundType : (Tryd.prog.globals[1]?).map (·.type) = some 131 := by kernel_rfl
theorem cells64 : Tryd.prog.cellsOf 131 = 64 := by kernel_rfl
theorem cells8 : Tryd.prog.cellsOf 108 = 8 := by kernel_rfl
theorem cellsW : Tryd.prog.cellsOf 43 = 1 := by kernel_rfl

/-- What a row lists of package sha. -/
def shaListed : List (String × DataW Unit) := [("pontoon/sha.firstWords", Rows.laid_pontoon_sha_firstWords), ("pontoon/sha.roundWords", Rows.laid_pontoon_sha_roundWords)]
def kInts : List Int := [1116352408, 1899447441, 3049323471, 3921009573, 961987163, 1508970993, 2453635748, 2870763221, 3624381080, 310598401, 607225278, 1426881987, 1925078388, 2162078206, 2614888103, 3248222580, 3835390401, 4022224774, 264347078, 604807628, 770255983, 1249150122, 1555081692, 1996064986, 2554220882, 2821834349, 2952996808, 3210313671, 3336571891, 3584528711, 113926993, 338241895, 666307205, 773529912, 1294757372, 1396182291, 1695183700, 1986661051, 2177026350, 2456956037, 2730485921, 2820302411, 3259730800, 3345764771, 3516065817, 3600352804, 4094571909, 275423344, 430227734, 506948616, 659060556, 883997877, 958139571, 1322822218, 1537002063, 1747873779, 1955562222, 2024104815, 2227730452, 2361852424, 2428436474, 2756734187, 3204031479, 3329325298]
def hInts : List Int := [1779033703, 3144134277, 1013904242, 2773480762, 1359893119, 2600822924, 528734635, 1541459225]
theorem kInts_at : ∀ j, j < 64 → kInts.getD j 0 = ((kWords.getD j 0).toNat : Int) := by decide +kernel
theorem hInts_at : ∀ j, j < 8 → hInts.getD j 0 = ((hWords.getD j 0).toNat : Int) := by decide +kernel

theorem tabs_of {W : World} (h : laidMetH Tryd.prog shaListed W) : Tabs W := by
  have h1 : Lib.TabIs Tryd.prog W "pontoon/sha.firstWords" .u32 hInts :=
    Lib.tabIs_of_head (rest := [("pontoon/sha.roundWords", Rows.laid_pontoon_sha_roundWords)]) gFirst gFirstType Tryd.underlying108 Tryd.underlying43 cellsW cells8 h
  have e : shaListed.filter (fun x => x.1 == "pontoon/sha.roundWords") = [("pontoon/sha.roundWords", Rows.laid_pontoon_sha_roundWords)] := by kernel_rfl
  have hf := h.filter (fun x => x.1 == "pontoon/sha.roundWords")
  rw [e] at hf
  have h2 : Lib.TabIs Tryd.prog W "pontoon/sha.roundWords" .u32 kInts :=
    Lib.tabIs_of_head (rest := []) gRound gRoundType Tryd.underlying131 Tryd.underlying43 cellsW cells64 hf
  have k : ∀ j, j < 64 → W.cell? ⟨1, j, none⟩ = some (.int .u32 ((kWords.getD j 0).toNat : Int)) := fun j hj => by
    rw [← kInts_at j hj]; exact h2.cell gRound j (by simpa [kInts] using hj)
  have hh : ∀ j, j < 8 → W.cell? ⟨0, j, none⟩ = some (.int .u32 ((hWords.getD j 0).toNat : Int)) := fun j hj => by
    rw [← hInts_at j hj]; exact h1.cell gFirst j (by simpa [hInts] using hj)
  exact ⟨⟨block_lt_of_cell (hh 0 (by decide)), block_lt_of_cell (k 0 (by decide))⟩, k, hh⟩

/-- A variable's cells turned. -/
def layCells (cs : Array Value) : Obj → Obj
  | .cells _ t frozen => .cells cs t frozen
  | o => o
def hCells : Array Value := #[.int .u32 1779033703, .int .u32 3144134277, .int .u32 1013904242, .int .u32 2773480762, .int .u32 1359893119, .int .u32 2600822924, .int .u32 528734635, .int .u32 1541459225]
def kCells : Array Value := #[.int .u32 1116352408, .int .u32 1899447441, .int .u32 3049323471, .int .u32 3921009573, .int .u32 961987163, .int .u32 1508970993, .int .u32 2453635748, .int .u32 2870763221, .int .u32 3624381080, .int .u32 310598401, .int .u32 607225278, .int .u32 1426881987, .int .u32 1925078388, .int .u32 2162078206, .int .u32 2614888103, .int .u32 3248222580, .int .u32 3835390401, .int .u32 4022224774, .int .u32 264347078, .int .u32 604807628, .int .u32 770255983, .int .u32 1249150122, .int .u32 1555081692, .int .u32 1996064986, .int .u32 2554220882, .int .u32 2821834349, .int .u32 2952996808, .int .u32 3210313671, .int .u32 3336571891, .int .u32 3584528711, .int .u32 113926993, .int .u32 338241895, .int .u32 666307205, .int .u32 773529912, .int .u32 1294757372, .int .u32 1396182291, .int .u32 1695183700, .int .u32 1986661051, .int .u32 2177026350, .int .u32 2456956037, .int .u32 2730485921, .int .u32 2820302411, .int .u32 3259730800, .int .u32 3345764771, .int .u32 3516065817, .int .u32 3600352804, .int .u32 4094571909, .int .u32 275423344, .int .u32 430227734, .int .u32 506948616, .int .u32 659060556, .int .u32 883997877, .int .u32 958139571, .int .u32 1322822218, .int .u32 1537002063, .int .u32 1747873779, .int .u32 1955562222, .int .u32 2024104815, .int .u32 2227730452, .int .u32 2361852424, .int .u32 2428436474, .int .u32 2756734187, .int .u32 3204031479, .int .u32 3329325298]
/-- A world for the witness: the settled one, the two tables holding what their initialisers lay. -/
noncomputable def shaWorld (os : Os) : World :=
  { World.holding Tryd.prog os ⟨#[], #[], []⟩ with heap := ((World.holding Tryd.prog os ⟨#[], #[], []⟩).heap.modify 0 (layCells hCells)).modify 1 (layCells kCells) }
theorem addr_add (b o j : Nat) : (⟨b, o, none⟩ : Addr).add j = ⟨b, o + j, none⟩ := by unfold Addr.add; split <;> simp_all

end Go.Proofs.YtdkaphebdkdfhaaDoor
