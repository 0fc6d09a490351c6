/-
  QueueDoes: what is done to any queue, and told of it, is the document's; it stays as it was.
-/
import Derived.Test.YtljocohbdghpaaaQueG
namespace Go.Proofs.Ytljocohbdghpaaa
open Go Go.RowKit
set_option linter.unusedSimpArgs false
set_option linter.unusedVariables false

theorem rsame_refl (xs : List Int) (n m : Nat) (h1 : xs.length = n) (h2 : xs.length = m) (hn : n ≤ 1000000) (p q : Option Addr) (c d : Nat) (w : World) (hB : VL w p (xs.map enI)) (hC : VL w q (xs.map enI)) :
    Calls Try.prog 13 #[.slice p n c, .slice q m d] w fun e w' => e = .returned (.bool true) ∧ Below w.heap.size w w' := by
  subst h1
  have h := rsame_calls xs xs hn p q c d m h2 (by omega) w hB hC
  rw [decide_eq_true rfl] at h
  exact h
set_option maxHeartbeats 1000000 in
set_option maxRecDepth 100000 in
theorem qawake_calls (w : World) : Calls Try.prog 6 #[] w fun e w' => e = .returned (.bool true) ∧ Below w.heap.size w w' := by
  have k := hide (fun (W : World) (b : Nat) (h : VL W (some ⟨b, 0, none⟩) (([1, 2, 3] : List Int).map enI)) => throughI_calls [1, 2, 3] (by decide) 2 (some ⟨b, 0, none⟩) 3 W (by decide) h)
  have V0 := hide (show VL (w.alloc (.cells #[.int .i64 1, .int .i64 2, .int .i64 3] 3)) (some ⟨w.heap.size, 0, none⟩) (([1, 2, 3] : List Int).map enI) from fun _ => ⟨w.heap.size, 0, rfl, by simp, fun i hi => by
    rw [Nat.zero_add, cell_of_row _ _ _ _ _ _ (al1 w (.cells #[.int .i64 1, .int .i64 2, .int .i64 3] 3))]
    match i, hi with
    | 0, _ => rfl
    | 1, _ => rfl
    | 2, _ => rfl⟩)
  have b0 := (Below.refl w.heap.size w).alloc (Nat.le_refl _) (.cells #[.int .i64 1, .int .i64 2, .int .i64 3] 3)
  have e1 : pThr 2 ([1, 2, 3] : List Int) = [3] := by decide
  have e2 : decide ((2 : Int) ∈ ([1, 2, 3] : List Int)) = true := by decide
  rw [e1, e2] at k
  clear e1 e2
  go_enter Try.func6, Try.ntmps6
  go_wp2_with fail
  refine (unhide k _ _ (unhide V0)).mono ?_
  rintro e w1 ⟨⟨v, rfl, ho⟩, b1⟩
  obtain ⟨p, c, rfl, V⟩ := VL_of_owns rfl ho
  obtain ⟨b, off, rfl, hl, hc⟩ := V (by simp)
  have c0 := hc 0 (by simp)
  have b2 := b0.trans (b1.mono b0.size)
  clear k V0 ho V hc b0 b1
  simp only [List.map_cons, List.map_nil, enI, List.length_singleton, Nat.add_zero, List.getElem?_cons_zero] at c0 ⊢
  go_wp2
  go_ret
  exact ⟨rfl, b2⟩
theorem pPushL_le (xs : List Int) (x m : Int) : (pPushL xs x m).length ≤ xs.length + 1 := by unfold pPushL; split <;> simp
theorem pThr_le (xs : List Int) (x : Int) : (pThr x xs).length ≤ xs.length := by unfold pThr; split <;> simp
theorem pTrim_le (xs : List Int) (m : Int) : (pTrim xs m).length ≤ xs.length := by unfold pTrim; simp
set_option maxHeartbeats 2000000 in
set_option maxRecDepth 100000 in
theorem queueDoes_nil (xs : List Int) (h0 : xs.length = 0) (hs : xs.length ≤ 500) (x y m : Int) (hm : -9223372036854775808 ≤ m) (hm2 : m ≤ 9223372036854775807) (p : Option Addr) (c : Nat) (hc : xs.length ≤ c) (hp : p = none → c = 0) (w : World) (hB : VL w p (xs.map enI)) :
    Calls Try.prog 3 #[.slice p xs.length c, .int .i64 x, .int .i64 y, .int .i64 m] w fun e w' => e = .returned (.bool true) ∧ Below w.heap.size w w' := by
  have hn : xs.length ≤ 1000000 := by omega
  have K0 := hide (fun W => qawake_calls W)
  have K1 := hide (fun W (h : VL W p (xs.map enI)) => cloneI_calls xs hn p c W h)
  have K2 := hide (fun W (h : VL W p (xs.map enI)) => pushI_calls xs hn x m p c W h)
  have K3 := hide (fun W (h : VL W p (xs.map enI)) => rpush_calls xs hn x m p c hp W h)
  have K4 := hide (fun W (h : VL W p (xs.map enI)) => throughI_calls xs hn x p c W hc h)
  have K5 := hide (fun W (h : VL W p (xs.map enI)) => rthrough_calls xs hn x p c W h)
  have K6 := hide (fun W => lastNI_calls p c W)
  have S1 := hide (fun (q q' : Option Addr) (d d' : Nat) W (h : VL W q ((pPushL xs x m).map enI)) (h' : VL W q' ((pPushL xs x m).map enI)) => rsame_refl (pPushL xs x m) _ _ rfl rfl (by have := pPushL_le xs x m; omega) q q' d d' W h h')
  have S2 := hide (fun (q q' : Option Addr) (d d' : Nat) W (h : VL W q ((pThr x xs).map enI)) (h' : VL W q' ((pThr x xs).map enI)) => rsame_refl (pThr x xs) _ _ rfl rfl (by have := pThr_le xs x; omega) q q' d d' W h h')
  have S3 := hide (fun (q q' : Option Addr) (d d' : Nat) W (h : VL W q ((pTrim xs m).map enI)) (h' : VL W q' ((pTrim xs m).map enI)) => rsame_refl (pTrim xs m) _ _ rfl rfl (by have := pTrim_le xs m; omega) q q' d d' W h h')
  have S4 := hide (fun (q q' : Option Addr) (d d' : Nat) W (h : VL W q (xs.map enI)) (h' : VL W q' (xs.map enI)) => rsame_refl xs _ _ rfl rfl hn q q' d d' W h h')
  have K7 := hide (fun W (h : VL W p (xs.map enI)) => hasI_calls xs hn x p c W h)
  have K8 := hide (fun W (h : VL W p (xs.map enI)) => rat_calls xs hn x p c W h)
  have K9 := hide (fun W (h : VL W p (xs.map enI)) => ahead_calls xs hn x y p c W h)
  have K10 := hide (fun W (h : VL W p (xs.map enI)) => rahead_calls xs hn x y p c W h)
  have K11 := hide (fun W (h : VL W p (xs.map enI)) => trim_calls xs hn m hm hm2 p c W hc hp h)
  have K12 := hide (fun W (h : VL W p (xs.map enI)) => rtrim_calls xs hn m hm hm2 p c W h)
  have hdec : decide (0 ≤ pAt x xs) = decide (x ∈ xs) := by have := pAt_neg x xs; by_cases hmm : x ∈ xs <;> simp_all
  have NLA := hide (show ((pPushL xs x m).map enI).length = (pPushL xs x m).length from List.length_map _)
  have NLC := hide (show ((pThr x xs).map enI).length = (pThr x xs).length from List.length_map _)
  have NLT := hide (show ((pTrim xs m).map enI).length = (pTrim xs m).length from List.length_map _)
  have NLQ := hide (show (xs.map enI).length = xs.length from List.length_map _)
  have VQ0 := hide hB
  have hd5 : decide ((500 : Int) < (xs.length : Int)) = false := decide_eq_false (by omega)
  generalize pPushE xs.length m = E at *
  generalize (pPushL xs x m).length = nLA at *
  generalize (pPushL xs x m).map enI = LA at *
  generalize (pThr x xs).length = nLC at *
  generalize (pThr x xs).map enI = LC at *
  generalize (pTrim xs m).length = nLT at *
  generalize (pTrim xs m).map enI = LT at *
  generalize decide (x ∈ xs) = bX at *
  generalize pAt x xs = R at *
  generalize pAt y xs = RY at *
  generalize xs.map enI = L at *
  rw [h0] at *
  simp only [enI] at K2 K4 K7
  clear hB hn hs h0
  go_enter Try.func3, Try.ntmps3
  go_wp2_with fail
  refine (unhide K0 _).mono ?_
  rintro e w1 ⟨rfl, b1⟩
  have VQ1 := hide ((unhide VQ0).below b1 (Nat.le_refl _))
  have bb1 := b1
  clear VQ0 b1 
  go_wp2_with fail
  refine (unhide K1 _ (unhide VQ1)).mono ?_
  rintro e w2 ⟨⟨v, rfl, ho⟩, b2⟩
  obtain ⟨pVW, cVW, rfl, vVW⟩ := VL_of_owns (unhide NLQ) ho
  have VW2 := hide vVW
  clear ho vVW
  have VQ2 := hide ((unhide VQ1).below b2 (Nat.le_refl _))
  have bb2 := bb1.trans (b2.mono bb1.size)
  clear VQ1 b2 bb1
  go_wp2_with fail
  refine (unhide K2 _ (unhide VQ2)).mono ?_
  rintro e w3 ⟨⟨v, rfl, ho⟩, b3⟩
  obtain ⟨pVA, cVA, rfl, vVA⟩ := VL_of_owns (unhide NLA) ho
  have VA3 := hide vVA
  clear ho vVA
  have VQ3 := hide ((unhide VQ2).below b3 (Nat.le_refl _))
  have VW3 := hide ((unhide VW2).below b3 (Nat.le_refl _))
  have bb3 := bb2.trans (b3.mono bb2.size)
  clear VQ2 VW2 b3 bb2
  go_wp2_with fail
  refine (unhide K3 _ (unhide VQ3)).mono ?_
  rintro e w4 ⟨⟨v, rfl, ho⟩, b4⟩
  obtain ⟨pVB, cVB, rfl, vVB⟩ := VL_of_owns (unhide NLA) ho
  have VB4 := hide vVB
  clear ho vVB
  have VQ4 := hide ((unhide VQ3).below b4 (Nat.le_refl _))
  have VW4 := hide ((unhide VW3).below b4 (Nat.le_refl _))
  have VA4 := hide ((unhide VA3).below b4 (Nat.le_refl _))
  have bb4 := bb3.trans (b4.mono bb3.size)
  clear VQ3 VW3 VA3 b4 bb3
  go_wp2_with fail
  refine (unhide K4 _ (unhide VQ4)).mono ?_
  rintro e w5 ⟨⟨v, rfl, ho⟩, b5⟩
  obtain ⟨pVC, cVC, rfl, vVC⟩ := VL_of_owns (unhide NLC) ho
  have VC5 := hide vVC
  clear ho vVC
  have VQ5 := hide ((unhide VQ4).below b5 (Nat.le_refl _))
  have VW5 := hide ((unhide VW4).below b5 (Nat.le_refl _))
  have VA5 := hide ((unhide VA4).below b5 (Nat.le_refl _))
  have VB5 := hide ((unhide VB4).below b5 (Nat.le_refl _))
  have bb5 := bb4.trans (b5.mono bb4.size)
  clear VQ4 VW4 VA4 VB4 b5 bb4
  go_wp2_with fail
  refine (unhide K5 _ (unhide VQ5)).mono ?_
  rintro e w6 ⟨⟨v, rfl, ho⟩, b6⟩
  obtain ⟨pVD, cVD, rfl, vVD⟩ := VL_of_owns (unhide NLC) ho
  have VD6 := hide vVD
  clear ho vVD
  have VQ6 := hide ((unhide VQ5).below b6 (Nat.le_refl _))
  have VW6 := hide ((unhide VW5).below b6 (Nat.le_refl _))
  have VA6 := hide ((unhide VA5).below b6 (Nat.le_refl _))
  have VB6 := hide ((unhide VB5).below b6 (Nat.le_refl _))
  have VC6 := hide ((unhide VC5).below b6 (Nat.le_refl _))
  have bb6 := bb5.trans (b6.mono bb5.size)
  clear VQ5 VW5 VA5 VB5 VC5 b6 bb5
  go_wp2_with fail
  refine (unhide K6 _).mono ?_
  rintro e w7 ⟨rfl, rfl⟩
  go_wp2_with fail
  refine (unhide S1 _ _ _ _ _ (unhide VA6) (unhide VB6)).mono ?_
  rintro e w7 ⟨rfl, b7⟩
  have VQ7 := hide ((unhide VQ6).below b7 (Nat.le_refl _))
  have VW7 := hide ((unhide VW6).below b7 (Nat.le_refl _))
  have VA7 := hide ((unhide VA6).below b7 (Nat.le_refl _))
  have VB7 := hide ((unhide VB6).below b7 (Nat.le_refl _))
  have VC7 := hide ((unhide VC6).below b7 (Nat.le_refl _))
  have VD7 := hide ((unhide VD6).below b7 (Nat.le_refl _))
  have bb7 := bb6.trans (b7.mono bb6.size)
  clear VQ6 VW6 VA6 VB6 VC6 VD6 b7 bb6
  go_wp2_with fail
  refine (unhide S2 _ _ _ _ _ (unhide VC7) (unhide VD7)).mono ?_
  rintro e w8 ⟨rfl, b8⟩
  have VQ8 := hide ((unhide VQ7).below b8 (Nat.le_refl _))
  have VW8 := hide ((unhide VW7).below b8 (Nat.le_refl _))
  have VA8 := hide ((unhide VA7).below b8 (Nat.le_refl _))
  have VB8 := hide ((unhide VB7).below b8 (Nat.le_refl _))
  have VC8 := hide ((unhide VC7).below b8 (Nat.le_refl _))
  have VD8 := hide ((unhide VD7).below b8 (Nat.le_refl _))
  have bb8 := bb7.trans (b8.mono bb7.size)
  clear VQ7 VW7 VA7 VB7 VC7 VD7 b8 bb7
  go_wp2_with fail
  refine (unhide K7 _ (unhide VQ8)).mono ?_
  rintro e w9 ⟨rfl, b9⟩
  have VQ9 := hide ((unhide VQ8).below b9 (Nat.le_refl _))
  have VW9 := hide ((unhide VW8).below b9 (Nat.le_refl _))
  have VA9 := hide ((unhide VA8).below b9 (Nat.le_refl _))
  have VB9 := hide ((unhide VB8).below b9 (Nat.le_refl _))
  have VC9 := hide ((unhide VC8).below b9 (Nat.le_refl _))
  have VD9 := hide ((unhide VD8).below b9 (Nat.le_refl _))
  have bb9 := bb8.trans (b9.mono bb8.size)
  clear VQ8 VW8 VA8 VB8 VC8 VD8 b9 bb8
  go_wp2_with fail
  refine (unhide K8 _ (unhide VQ9)).mono ?_
  rintro e w10 ⟨rfl, b10⟩
  have VQ10 := hide ((unhide VQ9).below b10 (Nat.le_refl _))
  have VW10 := hide ((unhide VW9).below b10 (Nat.le_refl _))
  have VA10 := hide ((unhide VA9).below b10 (Nat.le_refl _))
  have VB10 := hide ((unhide VB9).below b10 (Nat.le_refl _))
  have VC10 := hide ((unhide VC9).below b10 (Nat.le_refl _))
  have VD10 := hide ((unhide VD9).below b10 (Nat.le_refl _))
  have bb10 := bb9.trans (b10.mono bb9.size)
  clear VQ9 VW9 VA9 VB9 VC9 VD9 b10 bb9
  go_wp2_with fail
  refine (unhide K9 _ (unhide VQ10)).mono ?_
  rintro e w11 ⟨rfl, b11⟩
  have VQ11 := hide ((unhide VQ10).below b11 (Nat.le_refl _))
  have VW11 := hide ((unhide VW10).below b11 (Nat.le_refl _))
  have VA11 := hide ((unhide VA10).below b11 (Nat.le_refl _))
  have VB11 := hide ((unhide VB10).below b11 (Nat.le_refl _))
  have VC11 := hide ((unhide VC10).below b11 (Nat.le_refl _))
  have VD11 := hide ((unhide VD10).below b11 (Nat.le_refl _))
  have bb11 := bb10.trans (b11.mono bb10.size)
  clear VQ10 VW10 VA10 VB10 VC10 VD10 b11 bb10
  go_wp2_with fail
  refine (unhide K10 _ (unhide VQ11)).mono ?_
  rintro e w12 ⟨rfl, b12⟩
  have VQ12 := hide ((unhide VQ11).below b12 (Nat.le_refl _))
  have VW12 := hide ((unhide VW11).below b12 (Nat.le_refl _))
  have VA12 := hide ((unhide VA11).below b12 (Nat.le_refl _))
  have VB12 := hide ((unhide VB11).below b12 (Nat.le_refl _))
  have VC12 := hide ((unhide VC11).below b12 (Nat.le_refl _))
  have VD12 := hide ((unhide VD11).below b12 (Nat.le_refl _))
  have bb12 := bb11.trans (b12.mono bb11.size)
  clear VQ11 VW11 VA11 VB11 VC11 VD11 b12 bb11
  go_wp2_with fail
  refine (unhide K11 _ (unhide VQ12)).mono ?_
  rintro e w13 ⟨⟨v, rfl, ho⟩, b13⟩
  obtain ⟨pVT, cVT, rfl, vVT⟩ := VL_of_owns (unhide NLT) ho
  have VT13 := hide vVT
  clear ho vVT
  have VQ13 := hide ((unhide VQ12).below b13 (Nat.le_refl _))
  have VW13 := hide ((unhide VW12).below b13 (Nat.le_refl _))
  have VA13 := hide ((unhide VA12).below b13 (Nat.le_refl _))
  have VB13 := hide ((unhide VB12).below b13 (Nat.le_refl _))
  have VC13 := hide ((unhide VC12).below b13 (Nat.le_refl _))
  have VD13 := hide ((unhide VD12).below b13 (Nat.le_refl _))
  have bb13 := bb12.trans (b13.mono bb12.size)
  clear VQ12 VW12 VA12 VB12 VC12 VD12 b13 bb12
  go_wp2_with fail
  refine (unhide K12 _ (unhide VQ13)).mono ?_
  rintro e w14 ⟨⟨v, rfl, ho⟩, b14⟩
  obtain ⟨pVU, cVU, rfl, vVU⟩ := VL_of_owns (unhide NLT) ho
  have VU14 := hide vVU
  clear ho vVU
  have VQ14 := hide ((unhide VQ13).below b14 (Nat.le_refl _))
  have VW14 := hide ((unhide VW13).below b14 (Nat.le_refl _))
  have VA14 := hide ((unhide VA13).below b14 (Nat.le_refl _))
  have VB14 := hide ((unhide VB13).below b14 (Nat.le_refl _))
  have VC14 := hide ((unhide VC13).below b14 (Nat.le_refl _))
  have VD14 := hide ((unhide VD13).below b14 (Nat.le_refl _))
  have VT14 := hide ((unhide VT13).below b14 (Nat.le_refl _))
  have bb14 := bb13.trans (b14.mono bb13.size)
  clear VQ13 VW13 VA13 VB13 VC13 VD13 VT13 b14 bb13
  go_wp2_with fail
  refine (unhide S3 _ _ _ _ _ (unhide VT14) (unhide VU14)).mono ?_
  rintro e w15 ⟨rfl, b15⟩
  have VQ15 := hide ((unhide VQ14).below b15 (Nat.le_refl _))
  have VW15 := hide ((unhide VW14).below b15 (Nat.le_refl _))
  have VA15 := hide ((unhide VA14).below b15 (Nat.le_refl _))
  have VB15 := hide ((unhide VB14).below b15 (Nat.le_refl _))
  have VC15 := hide ((unhide VC14).below b15 (Nat.le_refl _))
  have VD15 := hide ((unhide VD14).below b15 (Nat.le_refl _))
  have VT15 := hide ((unhide VT14).below b15 (Nat.le_refl _))
  have VU15 := hide ((unhide VU14).below b15 (Nat.le_refl _))
  have bb15 := bb14.trans (b15.mono bb14.size)
  clear VQ14 VW14 VA14 VB14 VC14 VD14 VT14 VU14 b15 bb14
  go_wp2_with fail
  refine (unhide S4 _ _ _ _ _ (unhide VQ15) (unhide VW15)).mono ?_
  rintro e w16 ⟨rfl, b16⟩
  have VQ16 := hide ((unhide VQ15).below b16 (Nat.le_refl _))
  have VW16 := hide ((unhide VW15).below b16 (Nat.le_refl _))
  have VA16 := hide ((unhide VA15).below b16 (Nat.le_refl _))
  have VB16 := hide ((unhide VB15).below b16 (Nat.le_refl _))
  have VC16 := hide ((unhide VC15).below b16 (Nat.le_refl _))
  have VD16 := hide ((unhide VD15).below b16 (Nat.le_refl _))
  have VT16 := hide ((unhide VT15).below b16 (Nat.le_refl _))
  have VU16 := hide ((unhide VU15).below b16 (Nat.le_refl _))
  have bb16 := bb15.trans (b16.mono bb15.size)
  clear VQ15 VW15 VA15 VB15 VC15 VD15 VT15 VU15 b16 bb15
  go_wp2
  go_ret
  exact ⟨rfl, bb16⟩
set_option maxHeartbeats 2000000 in
set_option maxRecDepth 100000 in
theorem queueDoes_one (xs : List Int) (k : Nat) (z : Int) (hk : xs.length = k + 1) (hz : xs[k]? = some z) (hs : xs.length ≤ 500) (x y m : Int) (hm : -9223372036854775808 ≤ m) (hm2 : m ≤ 9223372036854775807) (p : Option Addr) (c : Nat) (hc : xs.length ≤ c) (hp : p = none → c = 0) (w : World) (hB : VL w p (xs.map enI)) :
    Calls Try.prog 3 #[.slice p xs.length c, .int .i64 x, .int .i64 y, .int .i64 m] w fun e w' => e = .returned (.bool true) ∧ Below w.heap.size w w' := by
  have hn : xs.length ≤ 1000000 := by omega
  have K0 := hide (fun W => qawake_calls W)
  have K1 := hide (fun W (h : VL W p (xs.map enI)) => cloneI_calls xs hn p c W h)
  have K2 := hide (fun W (h : VL W p (xs.map enI)) => pushI_calls xs hn x m p c W h)
  have K3 := hide (fun W (h : VL W p (xs.map enI)) => rpush_calls xs hn x m p c hp W h)
  have K4 := hide (fun W (h : VL W p (xs.map enI)) => throughI_calls xs hn x p c W hc h)
  have K5 := hide (fun W (h : VL W p (xs.map enI)) => rthrough_calls xs hn x p c W h)
  have K6 := hide (fun W (h : VL W p (xs.map enI)) => lastI_calls xs hn z k hk hz p c W h)
  have S1 := hide (fun (q q' : Option Addr) (d d' : Nat) W (h : VL W q ((pPushL xs x m).map enI)) (h' : VL W q' ((pPushL xs x m).map enI)) => rsame_refl (pPushL xs x m) _ _ rfl rfl (by have := pPushL_le xs x m; omega) q q' d d' W h h')
  have S2 := hide (fun (q q' : Option Addr) (d d' : Nat) W (h : VL W q ((pThr x xs).map enI)) (h' : VL W q' ((pThr x xs).map enI)) => rsame_refl (pThr x xs) _ _ rfl rfl (by have := pThr_le xs x; omega) q q' d d' W h h')
  have S3 := hide (fun (q q' : Option Addr) (d d' : Nat) W (h : VL W q ((pTrim xs m).map enI)) (h' : VL W q' ((pTrim xs m).map enI)) => rsame_refl (pTrim xs m) _ _ rfl rfl (by have := pTrim_le xs m; omega) q q' d d' W h h')
  have S4 := hide (fun (q q' : Option Addr) (d d' : Nat) W (h : VL W q (xs.map enI)) (h' : VL W q' (xs.map enI)) => rsame_refl xs _ _ rfl rfl hn q q' d d' W h h')
  have K7 := hide (fun W (h : VL W p (xs.map enI)) => hasI_calls xs hn x p c W h)
  have K8 := hide (fun W (h : VL W p (xs.map enI)) => rat_calls xs hn x p c W h)
  have K9 := hide (fun W (h : VL W p (xs.map enI)) => ahead_calls xs hn x y p c W h)
  have K10 := hide (fun W (h : VL W p (xs.map enI)) => rahead_calls xs hn x y p c W h)
  have K11 := hide (fun W (h : VL W p (xs.map enI)) => trim_calls xs hn m hm hm2 p c W hc hp h)
  have K12 := hide (fun W (h : VL W p (xs.map enI)) => rtrim_calls xs hn m hm hm2 p c W h)
  have hdec : decide (0 ≤ pAt x xs) = decide (x ∈ xs) := by have := pAt_neg x xs; by_cases hmm : x ∈ xs <;> simp_all
  have NLA := hide (show ((pPushL xs x m).map enI).length = (pPushL xs x m).length from List.length_map _)
  have NLC := hide (show ((pThr x xs).map enI).length = (pThr x xs).length from List.length_map _)
  have NLT := hide (show ((pTrim xs m).map enI).length = (pTrim xs m).length from List.length_map _)
  have NLQ := hide (show (xs.map enI).length = xs.length from List.length_map _)
  have HZ := hide (show (xs.map enI)[k]? = some (enI z) by rw [List.getElem?_map, hz]; rfl)
  have VQ0 := hide hB
  have hd5 : decide ((500 : Int) < (xs.length : Int)) = false := decide_eq_false (by omega)
  generalize pPushE xs.length m = E at *
  generalize (pPushL xs x m).length = nLA at *
  generalize (pPushL xs x m).map enI = LA at *
  generalize (pThr x xs).length = nLC at *
  generalize (pThr x xs).map enI = LC at *
  generalize (pTrim xs m).length = nLT at *
  generalize (pTrim xs m).map enI = LT at *
  generalize decide (x ∈ xs) = bX at *
  generalize pAt x xs = R at *
  generalize pAt y xs = RY at *
  generalize xs.map enI = L at *
  rw [hk] at *
  have hd6 : decide ((500 : Int) < (k : Int) + 1) = false := decide_eq_false (by omega)
  have hd7 : decide ((0 : Int) < (k : Int) + 1) = true := decide_eq_true (by omega)
  simp only [enI] at K2 K4 K7 K6 HZ
  clear hB hn hk hz
  go_enter Try.func3, Try.ntmps3
  go_wp2_with fail
  refine (unhide K0 _).mono ?_
  rintro e w1 ⟨rfl, b1⟩
  have VQ1 := hide ((unhide VQ0).below b1 (Nat.le_refl _))
  have bb1 := b1
  clear VQ0 b1 
  go_wp2_with fail
  refine (unhide K1 _ (unhide VQ1)).mono ?_
  rintro e w2 ⟨⟨v, rfl, ho⟩, b2⟩
  obtain ⟨pVW, cVW, rfl, vVW⟩ := VL_of_owns (unhide NLQ) ho
  have VW2 := hide vVW
  clear ho vVW
  have VQ2 := hide ((unhide VQ1).below b2 (Nat.le_refl _))
  have bb2 := bb1.trans (b2.mono bb1.size)
  clear VQ1 b2 bb1
  go_wp2_with fail
  refine (unhide K2 _ (unhide VQ2)).mono ?_
  rintro e w3 ⟨⟨v, rfl, ho⟩, b3⟩
  obtain ⟨pVA, cVA, rfl, vVA⟩ := VL_of_owns (unhide NLA) ho
  have VA3 := hide vVA
  clear ho vVA
  have VQ3 := hide ((unhide VQ2).below b3 (Nat.le_refl _))
  have VW3 := hide ((unhide VW2).below b3 (Nat.le_refl _))
  have bb3 := bb2.trans (b3.mono bb2.size)
  clear VQ2 VW2 b3 bb2
  go_wp2_with fail
  refine (unhide K3 _ (unhide VQ3)).mono ?_
  rintro e w4 ⟨⟨v, rfl, ho⟩, b4⟩
  obtain ⟨pVB, cVB, rfl, vVB⟩ := VL_of_owns (unhide NLA) ho
  have VB4 := hide vVB
  clear ho vVB
  have VQ4 := hide ((unhide VQ3).below b4 (Nat.le_refl _))
  have VW4 := hide ((unhide VW3).below b4 (Nat.le_refl _))
  have VA4 := hide ((unhide VA3).below b4 (Nat.le_refl _))
  have bb4 := bb3.trans (b4.mono bb3.size)
  clear VQ3 VW3 VA3 b4 bb3
  go_wp2_with fail
  refine (unhide K4 _ (unhide VQ4)).mono ?_
  rintro e w5 ⟨⟨v, rfl, ho⟩, b5⟩
  obtain ⟨pVC, cVC, rfl, vVC⟩ := VL_of_owns (unhide NLC) ho
  have VC5 := hide vVC
  clear ho vVC
  have VQ5 := hide ((unhide VQ4).below b5 (Nat.le_refl _))
  have VW5 := hide ((unhide VW4).below b5 (Nat.le_refl _))
  have VA5 := hide ((unhide VA4).below b5 (Nat.le_refl _))
  have VB5 := hide ((unhide VB4).below b5 (Nat.le_refl _))
  have bb5 := bb4.trans (b5.mono bb4.size)
  clear VQ4 VW4 VA4 VB4 b5 bb4
  go_wp2_with fail
  refine (unhide K5 _ (unhide VQ5)).mono ?_
  rintro e w6 ⟨⟨v, rfl, ho⟩, b6⟩
  obtain ⟨pVD, cVD, rfl, vVD⟩ := VL_of_owns (unhide NLC) ho
  have VD6 := hide vVD
  clear ho vVD
  have VQ6 := hide ((unhide VQ5).below b6 (Nat.le_refl _))
  have VW6 := hide ((unhide VW5).below b6 (Nat.le_refl _))
  have VA6 := hide ((unhide VA5).below b6 (Nat.le_refl _))
  have VB6 := hide ((unhide VB5).below b6 (Nat.le_refl _))
  have VC6 := hide ((unhide VC5).below b6 (Nat.le_refl _))
  have bb6 := bb5.trans (b6.mono bb5.size)
  clear VQ5 VW5 VA5 VB5 VC5 b6 bb5
  go_wp2_with fail
  refine (unhide K6 _ (unhide VQ6)).mono ?_
  rintro e w7 ⟨rfl, b7⟩
  have VQ7 := hide ((unhide VQ6).below b7 (Nat.le_refl _))
  have VW7 := hide ((unhide VW6).below b7 (Nat.le_refl _))
  have VA7 := hide ((unhide VA6).below b7 (Nat.le_refl _))
  have VB7 := hide ((unhide VB6).below b7 (Nat.le_refl _))
  have VC7 := hide ((unhide VC6).below b7 (Nat.le_refl _))
  have VD7 := hide ((unhide VD6).below b7 (Nat.le_refl _))
  have bb7 := bb6.trans (b7.mono bb6.size)
  clear VQ6 VW6 VA6 VB6 VC6 VD6 b7 bb6
  obtain ⟨bq, oq, rfl, hzb, hbr⟩ := (unhide VQ7) (by intro h0; have := unhide NLQ; rw [h0] at this; simp at this)
  have hr0 := hbr k (by rw [unhide NLQ]; omega)
  rw [unhide HZ] at hr0
  clear hbr hzb
  go_wp2_with fail
  refine (unhide S1 _ _ _ _ _ (unhide VA7) (unhide VB7)).mono ?_
  rintro e w8 ⟨rfl, b8⟩
  have VQ8 := hide ((unhide VQ7).below b8 (Nat.le_refl _))
  have VW8 := hide ((unhide VW7).below b8 (Nat.le_refl _))
  have VA8 := hide ((unhide VA7).below b8 (Nat.le_refl _))
  have VB8 := hide ((unhide VB7).below b8 (Nat.le_refl _))
  have VC8 := hide ((unhide VC7).below b8 (Nat.le_refl _))
  have VD8 := hide ((unhide VD7).below b8 (Nat.le_refl _))
  have bb8 := bb7.trans (b8.mono bb7.size)
  clear VQ7 VW7 VA7 VB7 VC7 VD7 b8 bb7
  go_wp2_with fail
  refine (unhide S2 _ _ _ _ _ (unhide VC8) (unhide VD8)).mono ?_
  rintro e w9 ⟨rfl, b9⟩
  have VQ9 := hide ((unhide VQ8).below b9 (Nat.le_refl _))
  have VW9 := hide ((unhide VW8).below b9 (Nat.le_refl _))
  have VA9 := hide ((unhide VA8).below b9 (Nat.le_refl _))
  have VB9 := hide ((unhide VB8).below b9 (Nat.le_refl _))
  have VC9 := hide ((unhide VC8).below b9 (Nat.le_refl _))
  have VD9 := hide ((unhide VD8).below b9 (Nat.le_refl _))
  have bb9 := bb8.trans (b9.mono bb8.size)
  clear VQ8 VW8 VA8 VB8 VC8 VD8 b9 bb8
  go_wp2_with fail
  refine (unhide K7 _ (unhide VQ9)).mono ?_
  rintro e w10 ⟨rfl, b10⟩
  have VQ10 := hide ((unhide VQ9).below b10 (Nat.le_refl _))
  have VW10 := hide ((unhide VW9).below b10 (Nat.le_refl _))
  have VA10 := hide ((unhide VA9).below b10 (Nat.le_refl _))
  have VB10 := hide ((unhide VB9).below b10 (Nat.le_refl _))
  have VC10 := hide ((unhide VC9).below b10 (Nat.le_refl _))
  have VD10 := hide ((unhide VD9).below b10 (Nat.le_refl _))
  have bb10 := bb9.trans (b10.mono bb9.size)
  clear VQ9 VW9 VA9 VB9 VC9 VD9 b10 bb9
  go_wp2_with fail
  refine (unhide K8 _ (unhide VQ10)).mono ?_
  rintro e w11 ⟨rfl, b11⟩
  have VQ11 := hide ((unhide VQ10).below b11 (Nat.le_refl _))
  have VW11 := hide ((unhide VW10).below b11 (Nat.le_refl _))
  have VA11 := hide ((unhide VA10).below b11 (Nat.le_refl _))
  have VB11 := hide ((unhide VB10).below b11 (Nat.le_refl _))
  have VC11 := hide ((unhide VC10).below b11 (Nat.le_refl _))
  have VD11 := hide ((unhide VD10).below b11 (Nat.le_refl _))
  have bb11 := bb10.trans (b11.mono bb10.size)
  clear VQ10 VW10 VA10 VB10 VC10 VD10 b11 bb10
  go_wp2_with fail
  refine (unhide K9 _ (unhide VQ11)).mono ?_
  rintro e w12 ⟨rfl, b12⟩
  have VQ12 := hide ((unhide VQ11).below b12 (Nat.le_refl _))
  have VW12 := hide ((unhide VW11).below b12 (Nat.le_refl _))
  have VA12 := hide ((unhide VA11).below b12 (Nat.le_refl _))
  have VB12 := hide ((unhide VB11).below b12 (Nat.le_refl _))
  have VC12 := hide ((unhide VC11).below b12 (Nat.le_refl _))
  have VD12 := hide ((unhide VD11).below b12 (Nat.le_refl _))
  have bb12 := bb11.trans (b12.mono bb11.size)
  clear VQ11 VW11 VA11 VB11 VC11 VD11 b12 bb11
  go_wp2_with fail
  refine (unhide K10 _ (unhide VQ12)).mono ?_
  rintro e w13 ⟨rfl, b13⟩
  have VQ13 := hide ((unhide VQ12).below b13 (Nat.le_refl _))
  have VW13 := hide ((unhide VW12).below b13 (Nat.le_refl _))
  have VA13 := hide ((unhide VA12).below b13 (Nat.le_refl _))
  have VB13 := hide ((unhide VB12).below b13 (Nat.le_refl _))
  have VC13 := hide ((unhide VC12).below b13 (Nat.le_refl _))
  have VD13 := hide ((unhide VD12).below b13 (Nat.le_refl _))
  have bb13 := bb12.trans (b13.mono bb12.size)
  clear VQ12 VW12 VA12 VB12 VC12 VD12 b13 bb12
  go_wp2_with fail
  refine (unhide K11 _ (unhide VQ13)).mono ?_
  rintro e w14 ⟨⟨v, rfl, ho⟩, b14⟩
  obtain ⟨pVT, cVT, rfl, vVT⟩ := VL_of_owns (unhide NLT) ho
  have VT14 := hide vVT
  clear ho vVT
  have VQ14 := hide ((unhide VQ13).below b14 (Nat.le_refl _))
  have VW14 := hide ((unhide VW13).below b14 (Nat.le_refl _))
  have VA14 := hide ((unhide VA13).below b14 (Nat.le_refl _))
  have VB14 := hide ((unhide VB13).below b14 (Nat.le_refl _))
  have VC14 := hide ((unhide VC13).below b14 (Nat.le_refl _))
  have VD14 := hide ((unhide VD13).below b14 (Nat.le_refl _))
  have bb14 := bb13.trans (b14.mono bb13.size)
  clear VQ13 VW13 VA13 VB13 VC13 VD13 b14 bb13
  go_wp2_with fail
  refine (unhide K12 _ (unhide VQ14)).mono ?_
  rintro e w15 ⟨⟨v, rfl, ho⟩, b15⟩
  obtain ⟨pVU, cVU, rfl, vVU⟩ := VL_of_owns (unhide NLT) ho
  have VU15 := hide vVU
  clear ho vVU
  have VQ15 := hide ((unhide VQ14).below b15 (Nat.le_refl _))
  have VW15 := hide ((unhide VW14).below b15 (Nat.le_refl _))
  have VA15 := hide ((unhide VA14).below b15 (Nat.le_refl _))
  have VB15 := hide ((unhide VB14).below b15 (Nat.le_refl _))
  have VC15 := hide ((unhide VC14).below b15 (Nat.le_refl _))
  have VD15 := hide ((unhide VD14).below b15 (Nat.le_refl _))
  have VT15 := hide ((unhide VT14).below b15 (Nat.le_refl _))
  have bb15 := bb14.trans (b15.mono bb14.size)
  clear VQ14 VW14 VA14 VB14 VC14 VD14 VT14 b15 bb14
  go_wp2_with fail
  refine (unhide S3 _ _ _ _ _ (unhide VT15) (unhide VU15)).mono ?_
  rintro e w16 ⟨rfl, b16⟩
  have VQ16 := hide ((unhide VQ15).below b16 (Nat.le_refl _))
  have VW16 := hide ((unhide VW15).below b16 (Nat.le_refl _))
  have VA16 := hide ((unhide VA15).below b16 (Nat.le_refl _))
  have VB16 := hide ((unhide VB15).below b16 (Nat.le_refl _))
  have VC16 := hide ((unhide VC15).below b16 (Nat.le_refl _))
  have VD16 := hide ((unhide VD15).below b16 (Nat.le_refl _))
  have VT16 := hide ((unhide VT15).below b16 (Nat.le_refl _))
  have VU16 := hide ((unhide VU15).below b16 (Nat.le_refl _))
  have bb16 := bb15.trans (b16.mono bb15.size)
  clear VQ15 VW15 VA15 VB15 VC15 VD15 VT15 VU15 b16 bb15
  go_wp2_with fail
  refine (unhide S4 _ _ _ _ _ (unhide VQ16) (unhide VW16)).mono ?_
  rintro e w17 ⟨rfl, b17⟩
  have VQ17 := hide ((unhide VQ16).below b17 (Nat.le_refl _))
  have VW17 := hide ((unhide VW16).below b17 (Nat.le_refl _))
  have VA17 := hide ((unhide VA16).below b17 (Nat.le_refl _))
  have VB17 := hide ((unhide VB16).below b17 (Nat.le_refl _))
  have VC17 := hide ((unhide VC16).below b17 (Nat.le_refl _))
  have VD17 := hide ((unhide VD16).below b17 (Nat.le_refl _))
  have VT17 := hide ((unhide VT16).below b17 (Nat.le_refl _))
  have VU17 := hide ((unhide VU16).below b17 (Nat.le_refl _))
  have bb17 := bb16.trans (b17.mono bb16.size)
  clear VQ16 VW16 VA16 VB16 VC16 VD16 VT16 VU16 b17 bb16
  go_wp2
  go_ret
  exact ⟨rfl, bb17⟩
set_option maxHeartbeats 400000 in
set_option maxRecDepth 100000 in
theorem queueDoes_walk (xs : List Int) (x y m : Int) (hm : -9223372036854775808 ≤ m) (hm2 : m ≤ 9223372036854775807) (p : Option Addr) (c : Nat) (hc : xs.length ≤ c) (hp : p = none → c = 0) (w : World) (hB : VL w p (xs.map enI)) :
    Calls Try.prog 3 #[.slice p xs.length c, .int .i64 x, .int .i64 y, .int .i64 m] w fun e w' => e = .returned (.bool true) ∧ Below w.heap.size w w' := by
  by_cases hs : xs.length ≤ 500
  · by_cases h0 : xs.length = 0
    · exact queueDoes_nil xs h0 hs x y m hm hm2 p c hc hp w hB
    · exact queueDoes_one xs (xs.length - 1) (xs[xs.length - 1]'(by omega)) (by omega) (List.getElem?_eq_getElem (by omega)) hs x y m hm hm2 p c hc hp w hB
  · have hd5 : decide ((500 : Int) < (xs.length : Int)) = true := decide_eq_true (by omega)
    have K0 := hide (fun W => qawake_calls W)
    generalize xs.length = n at *
    clear hB hs hc hp
    go_enter Try.func3, Try.ntmps3
    go_wp2_with fail
    refine (unhide K0 _).mono ?_
    rintro e w1 ⟨rfl, b1⟩
    go_wp2
    go_ret
    exact ⟨rfl, b1⟩
end Go.Proofs.Ytljocohbdghpaaa
