/-
  QueuePushes: what was pushed is there, and last; all others are where they were.
-/
import Derived.Test.YtljocohbdghpaaaLawQueueDoes
import Derived.Test.YtljocohbdghpaaaQueH
namespace Go.Proofs.Ytljocohbdghpaaa
open Go Go.RowKit
set_option linter.unusedSimpArgs false
set_option linter.unusedVariables false

theorem sequal_refl (xs : List (List UInt8)) (n m : Nat) (h1 : xs.length = n) (h2 : xs.length = m) (hn : n ≤ 1000000) (p q : Option Addr) (c d : Nat) (w : World) (hB : VL w p (xs.map enS)) (hC : VL w q (xs.map enS)) :
    Calls Try.prog 24 #[.slice p n c, .slice q m d] w fun e w' => e = .returned (.bool true) ∧ Below w.heap.size w w' := by
  subst h1
  have h := sequal_calls xs xs hn p q c d m h2 (by omega) w hB hC
  rw [decide_eq_true rfl] at h
  exact h
theorem pThr_last {α : Type} [DecidableEq α] (x : α) (xs : List α) (h : x ∉ xs) : (pThr x (xs ++ [x])).length = 0 := by
  unfold pThr
  rw [if_pos (by simp)]
  have e : ixO x (xs ++ [x]) = xs.length := by
    unfold ixO
    rw [List.idxOf_append]
    rw [if_neg h]
    simp
  rw [e, List.length_drop]
  simp
set_option maxHeartbeats 2000000 in
set_option maxRecDepth 100000 in
theorem queuePushes_in (xs : List (List UInt8)) (x : List UInt8) (hxx : x ∈ xs) (hs : xs.length ≤ 500) (p : Option Addr) (c : Nat) (hc : xs.length ≤ c) (hp : p = none → c = 0) (w : World) (hB : VL w p (xs.map enS)) :
    Calls Try.prog 5 #[.slice p xs.length c, .string (str x)] w fun e w' => e = .returned (.bool true) ∧ Below w.heap.size w w' := by
  have hn : xs.length ≤ 1000000 := by omega
  have hn1 : (xs ++ [x]).length ≤ 1000000 := by simp; omega
  have e1 : pPushL xs x ((xs.length : Int) + 1) = xs ++ [x] := by unfold pPushL; rw [if_neg (by omega)]
  have e2 : pPushE xs.length ((xs.length : Int) + 1) = 0 := by unfold pPushE; rw [if_neg (by omega)]
  have e3 : pPushL (xs ++ [x]) x ((xs ++ [x]).length : Int) = xs ++ [x] := by unfold pPushL; rw [if_pos (by omega)]
  have e4 : pPushE (xs ++ [x]).length ((xs ++ [x]).length : Int) = 6 := by unfold pPushE; rw [if_pos (by omega)]
  have e5 : decide (x ∈ xs ++ [x]) = true := decide_eq_true (by simp)
  have e6 : (xs ++ [x]).length = xs.length + 1 := by simp
  have e7 : (xs ++ [x])[xs.length]? = some x := by simp
  have K0 := hide (fun W => qawake_calls W)
  have K1 := hide (fun W (h : VL W p (xs.map enS)) => pushS_calls xs hn x ((xs.length : Int) + 1) p c W h)
  have K2 := hide (fun (q : Option Addr) (d : Nat) W (h : VL W q ((xs ++ [x]).map enS)) => lastS_calls (xs ++ [x]) hn1 x xs.length e6 e7 q d W h)
  have K3 := hide (fun (q : Option Addr) (d : Nat) W (h : VL W q ((xs ++ [x]).map enS)) => pushS_calls (xs ++ [x]) hn1 x ((xs ++ [x]).length : Int) q d W h)
  have K4 := hide (fun (q : Option Addr) (d : Nat) W (hd : (xs ++ [x]).length ≤ d) (h : VL W q ((xs ++ [x]).map enS)) => throughS_calls (xs ++ [x]) hn1 x q d W hd h)
  have K5 := hide (fun (q : Option Addr) (d : Nat) W (h : VL W q ((xs ++ [x]).map enS)) => hasS_calls (xs ++ [x]) hn1 x q d W h)
  have K6 := hide (fun W (h : VL W p (xs.map enS)) => hasS_calls xs hn x p c W h)
  have K7 := hide (fun (q : Option Addr) (d : Nat) W (h : VL W q (xs.map enS)) (h' : VL W p (xs.map enS)) => sequal_refl xs _ _ rfl rfl hn q p d c W h h')
  rw [e1, e2] at K1
  rw [e3, e4] at K3
  rw [e5] at K4 K5
  rw [decide_eq_true hxx] at K6
  have NL := hide (show ((xs ++ [x]).map enS).length = xs.length + 1 from by rw [List.length_map, e6])
  have NT := hide (show ((pThr x (xs ++ [x])).map enS).length = (pThr x (xs ++ [x])).length from List.length_map _)
  have HT := hide (show ((xs ++ [x]).map enS).take xs.length = xs.map enS by rw [← List.map_take]; simp)
  rw [e6] at K1 K2 K3 K4 K5
  have VQ0 := hide hB
  have hd5 : decide ((500 : Int) < (xs.length : Int)) = false := decide_eq_false (by omega)
  have hse : ((str x).toList == (str x).toList) = true := beq_self_eq_true _
  generalize (pThr x (xs ++ [x])).length = nT at *
  generalize (pThr x (xs ++ [x])).map enS = LT at *
  generalize (xs ++ [x]).map enS = LA at *
  generalize xs.map enS = L at *
  generalize xs.length = n at *
  simp only [enS] at K1 K2 K3 K4 K5 K6
  clear hB hn e1 e2 e3 e4 e5 e6 e7 hn1 hxx
  go_enter Try.func5, Try.ntmps5
  go_wp2_with fail
  refine (unhide K0 _).mono ?_
  rintro e w1 ⟨rfl, b1⟩
  have VQ1 := hide ((unhide VQ0).below b1 (Nat.le_refl _))
  have bb1 := b1
  clear VQ0 b1  K0
  go_wp2_with fail
  refine (unhide K1 _ (unhide VQ1)).mono ?_
  rintro e w2 ⟨⟨v, rfl, ho⟩, b2⟩
  obtain ⟨pVA, cVA, rfl, vVA⟩ := VL_of_owns (unhide NL) ho
  have ccVA := (owns_cap ho).1
  have VA2 := hide vVA
  clear ho vVA
  have VQ2 := hide ((unhide VQ1).below b2 (Nat.le_refl _))
  have bb2 := bb1.trans (b2.mono bb1.size)
  clear VQ1 b2 bb1 K1
  go_wp2_with fail
  refine (unhide K2 _ _ _ (unhide VA2)).mono ?_
  rintro e w3 ⟨rfl, b3⟩
  have VQ3 := hide ((unhide VQ2).below b3 (Nat.le_refl _))
  have VA3 := hide ((unhide VA2).below b3 (Nat.le_refl _))
  have bb3 := bb2.trans (b3.mono bb2.size)
  clear VQ2 VA2 b3 bb2 K2
  go_wp2_with fail
  refine (unhide K3 _ _ _ (unhide VA3)).mono ?_
  rintro e w4 ⟨⟨v, rfl, ho⟩, b4⟩
  clear ho
  have VQ4 := hide ((unhide VQ3).below b4 (Nat.le_refl _))
  have VA4 := hide ((unhide VA3).below b4 (Nat.le_refl _))
  have bb4 := bb3.trans (b4.mono bb3.size)
  clear VQ3 VA3 b4 bb3 K3
  go_wp2_with fail
  refine (unhide K4 _ _ _ ccVA (unhide VA4)).mono ?_
  rintro e w5 ⟨⟨v, rfl, ho⟩, b5⟩
  obtain ⟨pVT, cVT, rfl, vVT⟩ := VL_of_owns (unhide NT) ho
  have ccVT := (owns_cap ho).1
  have VT5 := hide vVT
  clear ho vVT
  clear ccVT
  have VQ5 := hide ((unhide VQ4).below b5 (Nat.le_refl _))
  have VA5 := hide ((unhide VA4).below b5 (Nat.le_refl _))
  have bb5 := bb4.trans (b5.mono bb4.size)
  clear VQ4 VA4 b5 bb4 K4
  go_wp2_with fail
  refine (unhide K5 _ _ _ (unhide VA5)).mono ?_
  rintro e w6 ⟨rfl, b6⟩
  have VQ6 := hide ((unhide VQ5).below b6 (Nat.le_refl _))
  have VA6 := hide ((unhide VA5).below b6 (Nat.le_refl _))
  have VT6 := hide ((unhide VT5).below b6 (Nat.le_refl _))
  have bb6 := bb5.trans (b6.mono bb5.size)
  clear VQ5 VA5 VT5 b6 bb5 K5
  go_wp2_with fail
  refine (unhide K6 _ (unhide VQ6)).mono ?_
  rintro e w7 ⟨rfl, b7⟩
  have VQ7 := hide ((unhide VQ6).below b7 (Nat.le_refl _))
  have VA7 := hide ((unhide VA6).below b7 (Nat.le_refl _))
  have VT7 := hide ((unhide VT6).below b7 (Nat.le_refl _))
  have bb7 := bb6.trans (b7.mono bb6.size)
  clear VQ6 VA6 VT6 b7 bb6 K6
  have VH7 := hide ((unhide VA7).take n)
  rw [unhide HT] at VH7
  go_wp2_with fail
  refine (unhide K7 _ _ _ (unhide VH7) (unhide VQ7)).mono ?_
  rintro e w8 ⟨rfl, b8⟩
  have VQ8 := hide ((unhide VQ7).below b8 (Nat.le_refl _))
  have VA8 := hide ((unhide VA7).below b8 (Nat.le_refl _))
  have VT8 := hide ((unhide VT7).below b8 (Nat.le_refl _))
  have VH8 := hide ((unhide VH7).below b8 (Nat.le_refl _))
  have bb8 := bb7.trans (b8.mono bb7.size)
  clear VQ7 VA7 VT7 VH7 b8 bb7 K7
  go_wp2
  go_ret
  exact ⟨rfl, bb8⟩
set_option maxHeartbeats 2000000 in
set_option maxRecDepth 100000 in
theorem queuePushes_out (xs : List (List UInt8)) (x : List UInt8) (hxx : x ∉ xs) (hs : xs.length ≤ 500) (p : Option Addr) (c : Nat) (hc : xs.length ≤ c) (hp : p = none → c = 0) (w : World) (hB : VL w p (xs.map enS)) :
    Calls Try.prog 5 #[.slice p xs.length c, .string (str x)] w fun e w' => e = .returned (.bool true) ∧ Below w.heap.size w w' := by
  have hn : xs.length ≤ 1000000 := by omega
  have hn1 : (xs ++ [x]).length ≤ 1000000 := by simp; omega
  have e1 : pPushL xs x ((xs.length : Int) + 1) = xs ++ [x] := by unfold pPushL; rw [if_neg (by omega)]
  have e2 : pPushE xs.length ((xs.length : Int) + 1) = 0 := by unfold pPushE; rw [if_neg (by omega)]
  have e3 : pPushL (xs ++ [x]) x ((xs ++ [x]).length : Int) = xs ++ [x] := by unfold pPushL; rw [if_pos (by omega)]
  have e4 : pPushE (xs ++ [x]).length ((xs ++ [x]).length : Int) = 6 := by unfold pPushE; rw [if_pos (by omega)]
  have e5 : decide (x ∈ xs ++ [x]) = true := decide_eq_true (by simp)
  have e6 : (xs ++ [x]).length = xs.length + 1 := by simp
  have e7 : (xs ++ [x])[xs.length]? = some x := by simp
  have K0 := hide (fun W => qawake_calls W)
  have K1 := hide (fun W (h : VL W p (xs.map enS)) => pushS_calls xs hn x ((xs.length : Int) + 1) p c W h)
  have K2 := hide (fun (q : Option Addr) (d : Nat) W (h : VL W q ((xs ++ [x]).map enS)) => lastS_calls (xs ++ [x]) hn1 x xs.length e6 e7 q d W h)
  have K3 := hide (fun (q : Option Addr) (d : Nat) W (h : VL W q ((xs ++ [x]).map enS)) => pushS_calls (xs ++ [x]) hn1 x ((xs ++ [x]).length : Int) q d W h)
  have K4 := hide (fun (q : Option Addr) (d : Nat) W (hd : (xs ++ [x]).length ≤ d) (h : VL W q ((xs ++ [x]).map enS)) => throughS_calls (xs ++ [x]) hn1 x q d W hd h)
  have K5 := hide (fun (q : Option Addr) (d : Nat) W (h : VL W q ((xs ++ [x]).map enS)) => hasS_calls (xs ++ [x]) hn1 x q d W h)
  have K6 := hide (fun W (h : VL W p (xs.map enS)) => hasS_calls xs hn x p c W h)
  have K7 := hide (fun (q : Option Addr) (d : Nat) W (h : VL W q (xs.map enS)) (h' : VL W p (xs.map enS)) => sequal_refl xs _ _ rfl rfl hn q p d c W h h')
  rw [e1, e2] at K1
  rw [e3, e4] at K3
  rw [e5] at K4 K5
  rw [decide_eq_false hxx] at K6
  have hT0 := pThr_last x xs hxx
  have NL := hide (show ((xs ++ [x]).map enS).length = xs.length + 1 from by rw [List.length_map, e6])
  have NT := hide (show ((pThr x (xs ++ [x])).map enS).length = (pThr x (xs ++ [x])).length from List.length_map _)
  have HT := hide (show ((xs ++ [x]).map enS).take xs.length = xs.map enS by rw [← List.map_take]; simp)
  rw [e6] at K1 K2 K3 K4 K5
  have VQ0 := hide hB
  have hd5 : decide ((500 : Int) < (xs.length : Int)) = false := decide_eq_false (by omega)
  have hse : ((str x).toList == (str x).toList) = true := beq_self_eq_true _
  rw [hT0] at K4 NT
  generalize (pThr x (xs ++ [x])).map enS = LT at *
  generalize (xs ++ [x]).map enS = LA at *
  generalize xs.map enS = L at *
  generalize xs.length = n at *
  simp only [enS] at K1 K2 K3 K4 K5 K6
  clear hB hn e1 e2 e3 e4 e5 e6 e7 hn1 hxx
  go_enter Try.func5, Try.ntmps5
  go_wp2_with fail
  refine (unhide K0 _).mono ?_
  rintro e w1 ⟨rfl, b1⟩
  have VQ1 := hide ((unhide VQ0).below b1 (Nat.le_refl _))
  have bb1 := b1
  clear VQ0 b1  K0
  go_wp2_with fail
  refine (unhide K1 _ (unhide VQ1)).mono ?_
  rintro e w2 ⟨⟨v, rfl, ho⟩, b2⟩
  obtain ⟨pVA, cVA, rfl, vVA⟩ := VL_of_owns (unhide NL) ho
  have ccVA := (owns_cap ho).1
  have VA2 := hide vVA
  clear ho vVA
  have VQ2 := hide ((unhide VQ1).below b2 (Nat.le_refl _))
  have bb2 := bb1.trans (b2.mono bb1.size)
  clear VQ1 b2 bb1 K1
  go_wp2_with fail
  refine (unhide K2 _ _ _ (unhide VA2)).mono ?_
  rintro e w3 ⟨rfl, b3⟩
  have VQ3 := hide ((unhide VQ2).below b3 (Nat.le_refl _))
  have VA3 := hide ((unhide VA2).below b3 (Nat.le_refl _))
  have bb3 := bb2.trans (b3.mono bb2.size)
  clear VQ2 VA2 b3 bb2 K2
  go_wp2_with fail
  refine (unhide K3 _ _ _ (unhide VA3)).mono ?_
  rintro e w4 ⟨⟨v, rfl, ho⟩, b4⟩
  clear ho
  have VQ4 := hide ((unhide VQ3).below b4 (Nat.le_refl _))
  have VA4 := hide ((unhide VA3).below b4 (Nat.le_refl _))
  have bb4 := bb3.trans (b4.mono bb3.size)
  clear VQ3 VA3 b4 bb3 K3
  go_wp2_with fail
  refine (unhide K4 _ _ _ ccVA (unhide VA4)).mono ?_
  rintro e w5 ⟨⟨v, rfl, ho⟩, b5⟩
  obtain ⟨pVT, cVT, rfl, vVT⟩ := VL_of_owns (unhide NT) ho
  have ccVT := (owns_cap ho).1
  have VT5 := hide vVT
  clear ho vVT
  clear ccVT
  have VQ5 := hide ((unhide VQ4).below b5 (Nat.le_refl _))
  have VA5 := hide ((unhide VA4).below b5 (Nat.le_refl _))
  have bb5 := bb4.trans (b5.mono bb4.size)
  clear VQ4 VA4 b5 bb4 K4
  go_wp2_with fail
  refine (unhide K5 _ _ _ (unhide VA5)).mono ?_
  rintro e w6 ⟨rfl, b6⟩
  have VQ6 := hide ((unhide VQ5).below b6 (Nat.le_refl _))
  have VA6 := hide ((unhide VA5).below b6 (Nat.le_refl _))
  have VT6 := hide ((unhide VT5).below b6 (Nat.le_refl _))
  have bb6 := bb5.trans (b6.mono bb5.size)
  clear VQ5 VA5 VT5 b6 bb5 K5
  go_wp2_with fail
  refine (unhide K6 _ (unhide VQ6)).mono ?_
  rintro e w7 ⟨rfl, b7⟩
  have VQ7 := hide ((unhide VQ6).below b7 (Nat.le_refl _))
  have VA7 := hide ((unhide VA6).below b7 (Nat.le_refl _))
  have VT7 := hide ((unhide VT6).below b7 (Nat.le_refl _))
  have bb7 := bb6.trans (b7.mono bb6.size)
  clear VQ6 VA6 VT6 b7 bb6 K6
  have VH7 := hide ((unhide VA7).take n)
  rw [unhide HT] at VH7
  go_wp2_with fail
  refine (unhide K7 _ _ _ (unhide VH7) (unhide VQ7)).mono ?_
  rintro e w8 ⟨rfl, b8⟩
  have VQ8 := hide ((unhide VQ7).below b8 (Nat.le_refl _))
  have VA8 := hide ((unhide VA7).below b8 (Nat.le_refl _))
  have VT8 := hide ((unhide VT7).below b8 (Nat.le_refl _))
  have VH8 := hide ((unhide VH7).below b8 (Nat.le_refl _))
  have bb8 := bb7.trans (b8.mono bb7.size)
  clear VQ7 VA7 VT7 VH7 b8 bb7 K7
  go_wp2
  go_ret
  exact ⟨rfl, bb8⟩
set_option maxHeartbeats 400000 in
set_option maxRecDepth 100000 in
theorem queuePushes_walk (xs : List (List UInt8)) (x : List UInt8) (p : Option Addr) (c : Nat) (hc : xs.length ≤ c) (hp : p = none → c = 0) (w : World) (hB : VL w p (xs.map enS)) :
    Calls Try.prog 5 #[.slice p xs.length c, .string (str x)] w fun e w' => e = .returned (.bool true) ∧ Below w.heap.size w w' := by
  by_cases hs : xs.length ≤ 500
  · by_cases h0 : x ∈ xs
    · exact queuePushes_in xs x h0 hs p c hc hp w hB
    · exact queuePushes_out xs x h0 hs p c hc hp w hB
  · have hd5 : decide ((500 : Int) < (xs.length : Int)) = true := decide_eq_true (by omega)
    have K0 := hide (fun W => qawake_calls W)
    generalize xs.length = n at *
    clear hB hs hc hp
    go_enter Try.func5, Try.ntmps5
    go_wp2_with fail
    refine (unhide K0 _).mono ?_
    rintro e w1 ⟨rfl, b1⟩
    go_wp2
    go_ret
    exact ⟨rfl, b1⟩
end Go.Proofs.Ytljocohbdghpaaa
